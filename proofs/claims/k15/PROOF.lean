import PyProof.Rows.All
import Wide.All
import OpenK.AllK
import Wide.FinOn
import HandS.ForMost
import HandS.IsInst
import HandS.WideBits
import PyProof.ReprRoads
import HandS.EndBits
import HandS.Walk
import PyProof.ReprLen
import HandS.Strs
import KE.GoesMore
import HandS.ClsMeth
import HandS.Defaults
import HandS.Star
import HandS.ExcOwn
import HandS.WordsExc
import HandS.WordsDict
import HandS.TupLen
import HandS.ExcInit
import HandS.Deep
import HandS.Style
import PyProof.EqKinds
import HandS.CallSlots
import HandS.ExcIs
import HandS.ExcField
import HandS.FStr
import KE.KExcIs
import KE.KExcInit
import HandS.Text
import HandS.Conv
import HandS.Small
import HandS.Zip
import HandS.TupAny
import PyProof.P3Eq
import PyProof.EqLayable
import KE.KExcLine
import PySem.Challenge.RW_fewestmethods_k15_whole_highest_common_s
set_option Elab.async false
set_option linter.all false
set_option maxRecDepth 100000
set_option maxHeartbeats 4000000
/-! Defs that show values with repr: the promise of a def that is called while no repr is under way. -/
namespace Kv
open PySem PySem.Spec PyProof.Rows L2
/-- as FnOk, for calls with no repr under way -/
structure FnG (P : Program) (w : World) (K : PySem.W.Frag) (mg : Str → Option Value)
    (base : Heap) (CX : CXT) (k : Nat) (f : Addr) (fd : FuncData) (ps : List Str) (sp : Sp) : Prop where
  many : ∀ vs H Q E, sp vs H Q E → vs.length = ps.length
  goes : ∀ (A : Around) (fr : List Env) (s : Shared) (H : Hp) (ar : Args)
    (us : List Value) (vs : List V) (Q : VK) (E : XK), A.guards = some [] → Room k A →
    Env0 P w K mg base A fr s H → BindsTo s fd ar (ps.zip us) → Vals vs us → sp vs H Q E →
    codeAny (model P w) A (.call (.ref f) ar) (CR CX fr P w H s Q E) s
theorem FnG.of {P : Program} {w : World} {K : PySem.W.Frag} {mg : Str → Option Value}
    {base : Heap} {CX : CXT} {k : Nat} {f : Addr} {fd : FuncData} {ps : List Str} {sp : Sp}
    (F : FnOk P w K mg base CX k f fd ps sp) : FnG P w K mg base CX k f fd ps sp :=
  ⟨F.len, fun A fr s H ar us vs Q E _ => F.run A fr s H ar us vs Q E⟩
section
variable {P : Program} {w : World} {K : PySem.W.Frag} {mg : Str → Option Value} {base : Heap}
/-- a def's promise by its body, where no repr is under way at the call -/
theorem okG {x qual : Str} {st : Stmt} {f : Addr} {fd : FuncData} {N ps : List Str} {k : Nat} {sp : Sp}
    (F : Fun K x qual st f fd) (S : FnScope N ps (defScope st))
    (many : ∀ vs H Q E, sp vs H Q E → vs.length = ps.length)
    (hb : ∀ (cdv : Value) (A : Around) (fr : List Env) (s : Shared) (H : Hp) (vs : List V) (Q : VK) (E : XK),
      A.guards = some [] →
      Room k (A.deeper (envOfC qual (defScope st) s.heap.objs.size f cdv)) → sp vs H Q E →
      ∃ t, PSs (cxOf CX0 P w K mg base N qual (defScope st) f cdv A fr s H E).nox (defBody st) t ∧
        t { nx := fun _ H' => Q .non H', rt := Q } (start N vs) H) :
    FnG P w K mg base CX0 (k + 1) f fd ps sp := by
  obtain ⟨oc, od, kV, doc, pm, an, cdv, ct, osl, rfl, lk, hcd⟩ := F.ex
  refine ⟨many, ?_⟩
  intro A fr s H ar us vs Q E hg hr e0 hbd rv hsp
  have kin : K.In s.heap :=
    e0.mod.kin.keeps fun b o e => (e0.bs b o e).1
  have nol : s.heap.NoLimit :=
    e0.mod.nolimit.keeps fun b o e => (e0.bs b o e).1
  refine codeAny_call_function hr.depth (kin _ _ lk) rfl S.co S.gen rfl
    (PySem.W.codeRec_of kin hcd) (hbd _ _ _ _ ?_)
  refine wpAny_newFunctionEnv_cells S.kind (fun y hy => ?_) fun env he s1 ic => ?_
  · obtain ⟨n, v⟩ := y
    rcases S.par n (List.of_mem_zip hy).1 with q | q
    · exact Or.inl q
    · exact Or.inr ⟨q, PySem.W.cellsFrom_some _ _ _ (Or.inl q)⟩
  · subst he
    refine ⟨nol.keeps ic.toInCall.keep, codeAny_func ?_⟩
    obtain ⟨t, ht, hq⟩ := hb cdv A fr s H vs Q E hg (hr.deeper _) hsp
    have I : Inv (cxOf CX0 P w K mg base N qual (defScope st) f cdv A fr s H E) [] (start N vs) H s1 :=
      inv_start S hr.hd e0 (many _ _ _ _ hsp) rv ic
    refine wpAny_mono (ht.nox.run [] s1 (start N vs) H _ I hq) (fun fl s2 hs => ?_) (fun e s2 hs => hs)
    cases fl with
    | brk => exact hs.elim fun _ h => h.elim fun _ h => h.2.elim
    | cont => exact hs.elim fun _ h => h.elim fun _ h => h.2.elim
    | ret u =>
      obtain ⟨v, σ2, H2, J, r2, q2⟩ := hs
      exact ⟨v, H2, J.os, J.bare, J.base, J.hok, r2, q2⟩
    | next =>
      obtain ⟨σ2, H2, J, q2⟩ := hs
      exact ⟨V.non, H2, J.os, J.bare, J.base, J.hok, rfl, q2⟩
end
section
variable {X : Cx} {CX : CXT} {k : Nat} {f : Addr} {fd : FuncData} {ps : List Str} {sp : Sp}
  {dvs : List V} {ds : List Value} {E : XK} {x : Str} {p pos : Pos} {e : Expr} {es : List Expr} {t : TA}
theorem runG {pins : List (Addr × Obj)} {σ : L2.St} {H : Hp} {s : Shared} {Q : VK} {us : List Value} {vs : List V}
    (F : FnG X.prog X.w X.K X.mg X.base CX k f fd ps sp) (hgd : X.A.guards = some []) (hr : Room k X.A)
    (hb : Binds X.K fd ps ds) (hd : Vals dvs ds) (hx : Passes CX X E)
    (I : Inv X pins σ H s) (r : Vals vs us) (h : sp (vs ++ dvs) H Q E) :
    wpAny (model X.prog X.w) X.A (call (.ref f) us) (EP X pins σ Q) X.xe s := by
  have rr : Vals (vs ++ dvs) (us ++ ds) := r.append hd
  have hl : (us ++ ds).length = ps.length := by
    rw [← rr.length]
    exact F.many _ _ _ _ h
  refine wpAny_call (codeAny_mono (F.goes X.A X.stack s H ⟨us, []⟩ (us ++ ds) (vs ++ dvs) Q E
    hgd hr I.env0 (hb s us I.kIn hl) rr h) fun z s2 hq => ?_)
  cases z with
  | error e => exact hx pins σ H s e s2 I hq
  | ok fl =>
    cases fl with
    | ret u => exact I.after hq
    | next => exact hq.elim
    | brk => exact hq.elim
    | cont => exact hq.elim
/-- f(e, ..) of such a def -/
theorem pe_callG (F : FnG X.prog X.w X.K X.mg X.base CX k f fd ps sp) (hgd : X.A.guards = some [])
    (hr : Room k X.A) (hg : Gl X x) (hm : X.mg x = some (.ref f)) (hk : PySem.W.keepIn X.K (.ref f) = true)
    (hb : Binds X.K fd ps ds) (hd : Vals dvs ds) (hx : Passes CX X E) (ha : PA X (e :: es) t)
    (hdb : (x == ("__debug__" : Str)) = false := by decide)
    (he : starEach (e :: es) X.env = (false, eval e X.env) :: starEach es X.env := by rfl)
    (hpl : (backTo pos (starEach es X.env)).any (·.1) = false := by rfl) :
    PE X (.Call (.Name x p) (e :: es) [] pos) (tCall sp dvs E t) := by
  constructor
  intro pins s σ H Q I h
  refine wpAny_Call_Name_kw (ld_glob I hg hm ?_ hdb)
  refine PySem.W.callWith_K (h₀ := X.base) I.ok.mod.kin hk (thn (ha.run pos pins s σ H _ I h)
    fun us s1 ⟨vs, H1, I1, r, q⟩ => ⟨I1.kIn, ?_⟩) he hpl
  exact runG F hgd hr hb hd hx I1 r q
end
/-! ### what repr shows -/
mutual
/-- the value v is the datum d. nd: no dict is in it -/
inductive Sh (K : PySem.W.Frag) (nd : Bool) (H : Hp) : V → PyData → Prop
  | non : Sh K nd H .non .none
  | bl (b : Bool) : Sh K nd H (.bl b) (.bool b)
  | int (i : Int) : Sh K nd H (.int i) (.int i)
  | str (x : Str) : Sh K nd H (.str x) (.str x)
  | lst {a : Addr} {xs : List V} {ds : List PyData} : SqL K H a xs → (nd = false → a ≠ sysModules) →
      ShAll K nd H xs ds → Sh K nd H (.ref a) (.list ds)
  | tup {a : Addr} {xs : List V} {ds : List PyData} : SqT K H a xs →
      ShAll K nd H xs ds → Sh K nd H (.ref a) (.tuple ds)
  | dict {a : Addr} {kvs : List (Key × V)} {ks vs : List PyData} : nd = false → H a = some (.dK kvs) →
      ShAll K nd H (kvs.map fun p => kV p.1) ks → ShAll K nd H (kvs.map fun p => p.2) vs →
      Sh K nd H (.ref a) (.dict (ks.zip vs))
inductive ShAll (K : PySem.W.Frag) (nd : Bool) (H : Hp) : List V → List PyData → Prop
  | nil : ShAll K nd H [] []
  | cons {v : V} {vs : List V} {d : PyData} {ds : List PyData} : Sh K nd H v d →
      ShAll K nd H vs ds → ShAll K nd H (v :: vs) (d :: ds)
end
theorem ShAll.length {K : PySem.W.Frag} {nd : Bool} {H : Hp} : ∀ {vs : List V} {ds : List PyData}, ShAll K nd H vs ds → vs.length = ds.length
  | _, _, .nil => rfl
  | _, _, .cons _ t => by rw [List.length_cons, List.length_cons, t.length]
theorem pairs_vals {P : Program} {w : World} : ∀ {es : List DictEntry} {kvs : List (Key × V)} {vs : List (Key × Value)},
    KV kvs vs → Pairs (mixKind P w) es vs →
    Vals (kvs.map fun p => kV p.1) (es.map (·.key)) ∧ Vals (kvs.map fun p => p.2) (es.map (·.val))
  | _, _, _, .nil, .nil => ⟨.nil, .nil⟩
  | _, _, _, .cons ⟨e1, r1⟩ t, .cons h1 h2 ht => by
    obtain ⟨q1, q2⟩ := pairs_vals t ht
    refine ⟨.cons ?_ q1, .cons (by show RelV _ (DictEntry.val _); rw [h2]; exact r1) q2⟩
    have h1' : keyIs _ _ = true := h1
    rw [← e1] at h1'
    show RelV (kV (Prod.fst _)) (DictEntry.key _)
    rcases keyIs_shape h1' with ⟨i, t, e, e2⟩ | ⟨x, t, e, e2⟩
    · rw [e, e2]
      exact ⟨t, rfl⟩
    · rw [e, e2]
      exact ⟨t, rfl⟩
theorem zip_fst : ∀ {α β : Type} (xs : List α) (ys : List β), xs.length = ys.length → (xs.zip ys).map (·.1) = xs
  | _, _, [], _, _ => rfl
  | _, _, x :: xs, y :: ys, h => by
    show x :: (xs.zip ys).map (·.1) = x :: xs
    rw [zip_fst xs ys (Nat.succ.inj h)]
theorem zip_snd : ∀ {α β : Type} (xs : List α) (ys : List β), xs.length = ys.length → (xs.zip ys).map (·.2) = ys
  | _, _, [], [], _ => rfl
  | _, _, x :: xs, y :: ys, h => by
    show y :: (xs.zip ys).map (·.2) = y :: ys
    rw [zip_snd xs ys (Nat.succ.inj h)]
section
variable {X : Cx} {pins : List (Addr × Obj)} {σ : L2.St} {H : Hp} {s : Shared} {nd : Bool}
mutual
theorem Sh.reads (I : Inv X pins σ H s) : ∀ {v : V} {d : PyData} {u : Value}, Sh X.K nd H v d → RelV v u →
    ∃ as, Reads s.heap u d as ∧ (nd = false → sysModules ∉ as) ∧ (nd = true → d.hasDict = false)
  | _, _, _, .non, r => by
    cases r
    exact ⟨_, Reads.none, fun _ h => (nomatch h), fun _ => by simp [PyData.hasDict]⟩
  | _, _, _, .bl b, r => by
    cases r
    exact ⟨_, Reads.bool b, fun _ h => (nomatch h), fun _ => by simp [PyData.hasDict]⟩
  | _, _, _, .int i, r => by
    obtain ⟨t, rfl⟩ := r
    exact ⟨_, Reads.int i t, fun _ h => (nomatch h), fun _ => by simp [PyData.hasDict]⟩
  | _, _, _, .str x, r => by
    obtain ⟨t, rfl⟩ := r
    exact ⟨_, Reads.str x t, fun _ h => (nomatch h), fun _ => by simp [PyData.hasDict]⟩
  | _, _, _, .lst hs hne ha, r => by
    cases r
    obtain ⟨its, rv, ⟨o, n, ho, hc, _, hd⟩, _⟩ := I.list hs
    obtain ⟨as, h1, h2, h3⟩ := ShAll.reads I ha rv
    refine ⟨_, Reads.list ho hc hd h1, fun e hm => ?_, fun e => by simp only [PyData.hasDict]; exact h3 e⟩
    rcases List.mem_cons.mp hm with z | z
    · exact hne e z.symm
    · exact h2 e z
  | _, _, _, .tup hs ha, r => by
    cases r
    obtain ⟨its, rv, ⟨o, ho, hc, n, hd⟩, _⟩ := I.tuple hs
    obtain ⟨as, h1, h2, h3⟩ := ShAll.reads I ha rv
    exact ⟨_, Reads.tuple ho hc hd h1, h2, fun e => by simp only [PyData.hasDict]; exact h3 e⟩
  | _, _, _, .dict (a := a) (kvs := kvs) (ks := ks) (vs := ds) e0 hs hk hv, r => by
    cases r
    have l1 := hk.length
    have l2 := hv.length
    rw [List.length_map] at l1 l2
    have l3 : ks.length = ds.length := l1.symm.trans l2
    obtain ⟨_, hne, vs, kv, o, es, ep, g1, g2, g3, _, g5, _⟩ :=
      (show ObjOk X.prog X.w H s.heap a (.dK kvs) from I.hok a _ hs)
    obtain ⟨v1, v2⟩ := pairs_vals kv g5
    obtain ⟨as, h1, h2, _⟩ := ShAll.reads I hk v1
    obtain ⟨bs, k1, k2, _⟩ := ShAll.reads I hv v2
    refine ⟨_, Reads.dict (kvs := ks.zip ds) g1 g2.1 g3 (by rw [zip_fst ks ds l3]; exact h1)
      (by rw [zip_snd ks ds l3]; exact k1), fun e hm => ?_, fun e => by rw [e0] at e; cases e⟩
    rcases List.mem_append.mp hm with z | z
    · rcases List.mem_cons.mp z with y | y
      · rw [← y] at hne
        simp at hne
      · exact h2 e y
    · exact k2 e z
theorem ShAll.reads (I : Inv X pins σ H s) : ∀ {vs : List V} {ds : List PyData} {us : List Value},
    ShAll X.K nd H vs ds → Vals vs us →
    ∃ as, ReadsAll s.heap us ds as ∧ (nd = false → sysModules ∉ as) ∧ (nd = true → PyData.hasDictAll ds = false)
  | _, _, _, .nil, r => by
    cases r
    exact ⟨_, ReadsAll.nil, fun _ h => (nomatch h), fun _ => by simp [PyData.hasDictAll]⟩
  | _, _, _, .cons h1 h2, .cons r1 r2 => by
    obtain ⟨as, q1, q2, q3⟩ := Sh.reads I h1 r1
    obtain ⟨bs, k1, k2, k3⟩ := ShAll.reads I h2 r2
    refine ⟨_, ReadsAll.cons q1 k1, fun e hm => ?_, fun e => by simp only [PyData.hasDictAll, q3 e, k3 e, Bool.or_self]⟩
    rcases List.mem_append.mp hm with z | z
    · exact q2 e z
    · exact k2 e z
end
/-- repr of a datum -/
def rRepr (K : PySem.W.Frag) : List V → Hp → VK → Prop := fun xs H Q => ∃ (nd : Bool) (x : V) (d : PyData), xs = [x] ∧
  Sh K nd H x d ∧ d.showable = true ∧ d.shown.length ≤ sizeLine ∧ d.depth ≤ 60 ∧ Q (.str d.shown) H
theorem call_reprD (hg : X.A.guards = some []) (hu : X.A.units + 64 < cLine) : CallR X (.builtin "repr") (rRepr X.K) := by
  intro pins s σ H xs us Q I r h
  obtain ⟨nd, x, d, rfl, sh, hs, hz, hd, q⟩ := h
  obtain ⟨u, rfl, ru⟩ : ∃ u, us = [u] ∧ RelV x u := by
    cases r with
    | cons r1 r2 =>
      cases r2
      exact ⟨_, rfl, r1⟩
  obtain ⟨as, rd, n1, n2⟩ := sh.reads I ru
  cases sh with
  | non =>
    cases ru
    exact PySem.P.repr_of_none ⟨.str "None", H, I.tok _, ⟨_, rfl⟩, by simpa [PyData.shown] using q⟩
  | bl b =>
    cases ru
    exact PySem.P.repr_of_bool ⟨.str (if b then "True" else "False"), H, I.tok _, ⟨_, rfl⟩, by simpa [PyData.shown] using q⟩
  | int i =>
    obtain ⟨t, rfl⟩ := ru
    exact PySem.P.repr_of_int (by simpa [PyData.showable] using hs) ⟨.str (toString i), H, I.tok _, ⟨_, rfl⟩, by simpa [PyData.shown] using q⟩
  | str z =>
    obtain ⟨t, rfl⟩ := ru
    exact PySem.P.repr_of_str ⟨.str (reprText z), H, I.tok _, ⟨_, rfl⟩, by simpa [PyData.shown] using q⟩ (by simpa [PyData.shown] using hz)
  | lst h1 h2 h3 =>
    cases ru
    exact repr_of_reads' rd hs (fun e => by cases nd with
      | false => exact n1 rfl
      | true => rw [n2 rfl] at e; cases e) hg (by omega) (fun _ _ e => e) (fun h2 u tk hk => ⟨.str _, H, I.kept hk, ⟨_, rfl⟩, q⟩) hz
  | tup h1 h2 =>
    cases ru
    exact repr_of_reads' rd hs (fun e => by cases nd with
      | false => exact n1 rfl
      | true => rw [n2 rfl] at e; cases e) hg (by omega) (fun _ _ e => e) (fun h2 u tk hk => ⟨.str _, H, I.kept hk, ⟨_, rfl⟩, q⟩) hz
  | dict h1 h2 h3 h4 =>
    cases ru
    exact repr_of_reads' rd hs (fun e => by cases nd with
      | false => exact n1 rfl
      | true => rw [n2 rfl] at e; cases e) hg (by omega) (fun _ _ e => e) (fun h2 u tk hk => ⟨.str _, H, I.kept hk, ⟨_, rfl⟩, q⟩) hz
end
end Kv
/-! The end of a law whose def shows values with repr. -/
namespace Kv
open PySem PySem.Spec PyProof.Rows L2
section
variable {P : Program} {w : World} {K : PySem.W.Frag} {mg mb : Str → Option Value} {CX : CXT} {k : Nat}
  {fa a : Addr} {fd : FuncData} {x : Str} {sp : Sp} {s1 : Shared} {vs : List Value} {ns : List Int}
/-- the list object of the script -/
abbrev scr (vs : List Value) : Obj := { cls := .type "list", data := .seq vs.toArray }
abbrev Done (s1 : Shared) (r : Result) (s2 : Shared) : Prop :=
  r = .ok (.ret (.bool true)) ∧ OldK s1.heap s2.heap ∧ s2.os = s1.os ∧ AllBare s2.gens
/-- from a heap in which at most the script is tracked -/
theorem law_from (H : Hp) (KX : K.In s1.heap) (hns : s1.heap.Ns mainGlobals mg) (hb : s1.heap.Ns builtinsNs mb)
    (hbb : ∀ y : Str, y ≠ "__name__" → mb y = bootBuiltins y) (hlim : s1.heap.NoLimit) (hg : s1.gens = #[])
    (ha : s1.heap.get? a = some (scr vs)) (hr : Room k callerA) (low : sysModules < s1.heap.objs.size)
    (F : ∀ base : Heap, K.In base → base.Ns mainGlobals mg → sysModules < base.objs.size →
      FnG P w K mg base CX k fa fd [x] sp)
    (bind : ∀ (s : Shared) (u : Value), BindsTo s fd ⟨[u], []⟩ [(x, u)])
    (hsp : sp [.ref a] H (fun v _ => v = .bl true) fun _ _ _ => False)
    (hCX : ∀ e s2, CX [] H s1 (fun _ _ _ => False) e s2 → False)
    (hO : Only H) (hok : HOk P w H s1.heap) (hA : ∀ b u, H b = some u → b = a)
    (hK : ∀ u, H a = some u → K.lookup a = none) :
    codeAny (model P w) callerA (.call (.ref fa) ⟨[.ref a], []⟩) (Done s1) s1 := by
  have nodict : ∀ {b : Addr} {o : Obj} {es : Array DictEntry} {ep : Nat},
      s1.heap.get? b = some o → o.data = .dict es ep → H b = none := by
    intro b o es ep e d
    cases q : H b with
    | none => rfl
    | some u =>
      rw [hA b u q, ha] at e
      cases e
      exact nomatch (show Data.seq vs.toArray _ = Data.dict es ep from d)
  have ns2 : ∀ {b : Addr} {m : Str → Option Value}, s1.heap.Ns b m → (hidT s1.heap H).Ns b m := by
    intro b m h
    obtain ⟨o, es, ep, e, d, r⟩ := h
    exact ⟨o, es, ep, hidT_get e (nodict e d), d, r⟩
  have kin : K.In (hidT s1.heap H) := by
    intro b o e
    refine hidT_get (KX b o e) ?_
    cases q : H b with
    | none => rfl
    | some u =>
      have z := hA b u q
      subst z
      rw [hK u q] at e
      cases e
  have md : Mod K mg (hidT s1.heap H) := by
    obtain ⟨mc, l1, l2⟩ := hlim
    exact ⟨kin, ns2 hns, ⟨mb, ns2 hb, hbb⟩, ⟨mc, ns2 l1, l2⟩⟩
  have e0 : Env0 P w K mg (hidT s1.heap H) callerA [] s1 H := by
    refine ⟨rfl, md, fun b o e => of_hidT e, Nat.le_of_eq (hidT_size _ _), trivial, ?_, hok, .of_eq hg⟩
    intro b z
    exact nomatch (show b ∈ ([] : List Addr) from z)
  have low2 : sysModules < (hidT s1.heap H).objs.size := by
    rw [hidT_size]
    exact low
  refine codeAny_mono ((F _ kin (ns2 hns) low2).goes callerA [] s1 H ⟨[.ref a], []⟩ [.ref a] [.ref a] _ _
    rfl hr e0 (bind s1 (.ref a)) (.cons rfl .nil) hsp) fun r s2 h => ?_
  cases r with
  | error e => exact (hCX e s2 h).elim
  | ok fl =>
    cases fl with
    | next => exact h.elim
    | brk => exact h.elim
    | cont => exact h.elim
    | ret u =>
      obtain ⟨v, H2, os, bare, un, hok2, r2, q2⟩ := h
      have q3 : v = .bl true := q2
      subst q3
      obtain rfl : u = Value.bool true := r2
      refine ⟨rfl, OldK.of_keep fun b o e => ?_, os, bare⟩
      rcases hO b with z | ⟨ob, xs, z⟩
      · exact un.keep b o e z (fun y => nomatch (show b ∈ ([] : List Addr) from y)) (by simp)
      · obtain ⟨e1, _⟩ := hok b _ z
        obtain ⟨e2, _⟩ := hok2 b _ (un.frzs b ob _ z)
        rw [e] at e1
        cases e1
        exact e2
/-- the script tracked, unless it is one of the module's own objects -/
theorem law_callG (KX : K.In s1.heap) (hns : s1.heap.Ns mainGlobals mg) (hb : s1.heap.Ns builtinsNs mb)
    (hbb : ∀ y : Str, y ≠ "__name__" → mb y = bootBuiltins y) (hlim : s1.heap.NoLimit) (hg : s1.gens = #[])
    (ha : s1.heap.get? a = some (scr vs)) (hi : IntsAre vs ns) (hl : ns.length ≤ sizeLine)
    (hr : Room k callerA) (low : sysModules < s1.heap.objs.size)
    (F : ∀ base : Heap, K.In base → base.Ns mainGlobals mg → sysModules < base.objs.size →
      FnG P w K mg base CX k fa fd [x] sp)
    (bind : ∀ (s : Shared) (u : Value), BindsTo s fd ⟨[u], []⟩ [(x, u)])
    (hsp : ∀ H : Hp, Only H → SqL K H a (ns.map V.int) →
      sp [.ref a] H (fun v _ => v = .bl true) fun _ _ _ => False)
    (hCX : ∀ H e s2, CX [] H s1 (fun _ _ _ => False) e s2 → False) :
    codeAny (model P w) callerA (.call (.ref fa) ⟨[.ref a], []⟩) (Done s1) s1 := by
  have rv : Vals (ns.map V.int) vs := vals_ints hi
  have len : vs.length = ns.length := by
    have := rv.length
    rw [List.length_map] at this
    exact this.symm
  cases hk : K.lookup a with
  | some o =>
    have e := KX a o hk
    rw [ha] at e
    cases e
    have sq : SqL K (fun _ => none) a (ns.map V.int) := by
      refine Or.inr ⟨_, vs.toArray, _, hk, rfl, rfl, rfl, ?_, by simpa using rv⟩
      rw [List.size_toArray, len]
      exact hl
    have on : Only fun _ => none := fun _ => Or.inl rfl
    refine law_from (fun _ => none) KX hns hb hbb hlim hg ha hr low F bind (hsp _ on sq) (hCX _) on ?_ ?_ ?_
    · intro b u z
      exact nomatch z
    · intro b u z
      exact nomatch z
    · intro u z
      exact nomatch z
  | none =>
    let H : Hp := fun b => if b = a then some (.frz (scr vs) (.lst (ns.map V.int))) else none
    have at1 : H a = some (.frz (scr vs) (.lst (ns.map V.int))) := if_pos rfl
    have out : ∀ b u, H b = some u → b = a ∧ u = .frz (scr vs) (.lst (ns.map V.int)) := by
      intro b u z
      by_cases hb : b = a
      · subst hb
        rw [at1] at z
        exact ⟨rfl, (Option.some.inj z).symm⟩
      · have z2 : (none : Option HO) = some u := (if_neg hb).symm.trans z
        cases z2
    have on : Only H := by
      intro b
      by_cases hb : b = a
      · exact Or.inr ⟨_, _, by rw [hb]; exact at1⟩
      · exact Or.inl (if_neg hb)
    refine law_from H KX hns hb hbb hlim hg ha hr low F bind (hsp _ on (Or.inl (Or.inr ⟨_, at1⟩))) (hCX _) on ?_
      (fun b u z => (out b u z).1) fun _ _ => hk
    intro b u z
    obtain ⟨rfl, rfl⟩ := out b u z
    refine ⟨ha, ?_, vs, _, rv, ha⟩
    rw [List.length_map]
    exact hl
end
/-- the goal that k_head leaves, from the law's promise -/
theorem walk_ofG {l : PySem.W.OpenLaw} {n k : Nat} {q : Program} {loose : List Str}
    {XP : (Str → Option Value) → Heap → Prop} {YP : World → Heap → Prop} {d : DefRec} {K : Params → PySem.W.Frag}
    {sp : World → Sp} {x : Str}
    (hn : l.most = some n) (hn2 : n ≤ sizeLine) (hdf : d.params.defaults = []) (hr : Room k callerA)
    (hY : ∀ (w : World) (h : Heap), YP w h → (K w.params).In h)
    (F : ∀ (w : World) (mg : Str → Option Value) (fa : Addr) (h : Heap), (K w.params).In h →
      h.Ns mainGlobals mg → mg d.name = some (.ref fa) →
      ∃ fd : FuncData, (∀ (s : Shared) (u : Value), BindsTo s fd ⟨[u], []⟩ [(x, u)]) ∧
        ∀ base : Heap, (K w.params).In base → base.Ns mainGlobals mg → sysModules < base.objs.size →
          FnG l.prog w (K w.params) mg base CX0 k fa fd [x] (sp w))
    (hsp : ∀ (w : World) (H : Hp) (a : Addr) (ns : List Int), ns.length ≤ n →
      (∀ z ∈ ns, Builtin.Int.intBits z ≤ 1048576) → Only H → SqL (K w.params) H a (ns.map V.int) →
      sp w [.ref a] H (fun v _ => v = .bl true) fun _ _ _ => False) :
    PySem.W.WalkO q loose XP YP l.row.toRowW d [] (fun f vs => PySem.call f vs) := by
  refine Att.attach_callB hn hdf ?_
  intro w s0 s1 mg mb fa o pm cd doc a vs ns G Y ho hd hcd hmg hobj hints hlen hbits hgens
  have KX := hY w _ Y
  obtain ⟨fd, hb, hF⟩ := F w mg fa _ KX G.T.g hmg
  exact law_callG KX G.T.g G.T.b G.T.builtins G.T.nolimit hgens hobj hints (Nat.le_trans hlen hn2) hr G.low hF hb
    (fun H hO hS => hsp w H a ns hlen hbits hO hS) fun H e s2 z => z
end Kv
/-! Texts of few plain signs; what isinstance says of a datum. -/
namespace Kv
open PySem PySem.Spec PyProof.Rows L2
/-- at most n signs, all below 128 -/
def Sm (n : Nat) (x : Str) : Prop := x.length ≤ n ∧ ∀ c ∈ x.cps.toList, c < 128
theorem len_list (x : Str) : x.length = x.cps.toList.length := by
  show x.cps.size = _
  rw [Array.length_toList]
theorem Sm.mono {n m : Nat} {x : Str} (h : Sm n x) (hn : n ≤ m) : Sm m x := ⟨Nat.le_trans h.1 hn, h.2⟩
theorem Sm.app {n m : Nat} {x y : Str} (h : Sm n x) (k : Sm m y) : Sm (n + m) (x ++ y) := by
  have e : (x ++ y).cps.toList = x.cps.toList ++ y.cps.toList := TL.tl_append x y
  refine ⟨?_, fun c hc => ?_⟩
  · rw [len_list, e, List.length_append, ← len_list, ← len_list]
    exact Nat.add_le_add h.1 k.1
  · rw [e] at hc
    rcases List.mem_append.mp hc with z | z
    · exact h.2 c z
    · exact k.2 c z
theorem Sm.cut {n : Nat} {x : Str} (h : Sm n x) (lo hi : Option Int) : Sm n (cutS x lo hi) := by
  have e : (cutS x lo hi).cps.toList = (x.cps.toList.drop (HT.sIx x.length 0 lo)).take (HT.sIx x.length x.length hi - HT.sIx x.length 0 lo) := by
    unfold cutS
    rfl
  refine ⟨?_, fun c hc => ?_⟩
  · rw [len_list, e]
    rw [List.length_take, List.length_drop, ← len_list]
    have := h.1
    omega
  · rw [e] at hc
    exact h.2 c (List.mem_of_mem_drop (List.mem_of_mem_take hc))
theorem Sm.upper {n : Nat} {x : Str} (h : Sm n x) : Sm n (Txt.upper x) := by
  rw [upper_ascii h.2]
  refine ⟨?_, fun c hc => ?_⟩
  · show (x.cps.map up1).size ≤ n
    rw [Array.size_map]
    exact h.1
  · have hc2 : c ∈ (x.cps.map up1).toList := hc
    rw [Array.toList_map] at hc2
    obtain ⟨d, hd, rfl⟩ := List.mem_map.mp hc2
    have := h.2 d hd
    unfold up1
    split <;> omega
theorem joinL_nil : ∀ ps : List (List Nat), TL.joinL [] ps = ps.flatten
  | [] => rfl
  | [p] => by simp [TL.joinL]
  | p :: q :: r => by
    show p ++ ([] ++ TL.joinL [] (q :: r)) = _
    rw [joinL_nil (q :: r)]
    simp
/-- texts of one plain sign each, joined by nothing -/
theorem Sm.join : ∀ {ys : List Str}, (∀ y ∈ ys, Sm 1 y) → Sm ys.length (Txt.join "" ys) := by
  intro ys hy
  have e : (Txt.join "" ys).cps.toList = (ys.map TL.tl).flatten := by
    rw [TL.join_eq]
    show TL.tl (Str.join _ _) = _
    rw [TL.tl_join]
    exact joinL_nil _
  refine ⟨?_, fun c hc => ?_⟩
  · rw [len_list, e]
    clear e
    induction ys with
    | nil => exact Nat.le_refl _
    | cons y r ih =>
      have h1 := (hy y (List.mem_cons_self ..)).1
      have h2 := ih fun z hz => hy z (List.mem_cons_of_mem _ hz)
      rw [len_list] at h1
      simp only [List.map_cons, List.flatten_cons, List.length_append, List.length_cons]
      have h3 : (TL.tl y).length ≤ 1 := h1
      omega
  · rw [e] at hc
    obtain ⟨l, hl, hcl⟩ := List.mem_flatten.mp hc
    obtain ⟨y, hm, rfl⟩ := List.mem_map.mp hl
    exact (hy y hm).2 c hcl
theorem Sm.shown {n : Nat} {x : Str} (h : Sm n x) : (reprText x).length ≤ 10 * n + 2 := by
  have := PySem.StrLaws.reprText_len x fun c hc => Nat.lt_trans (h.2 c hc) (by decide)
  have := h.1
  omega
theorem sz1 : ∀ {n : Nat}, n ≤ 1000 → n < sizeLine := fun h => small1000 h
theorem szle {n : Nat} (h : n ≤ 10000) : n ≤ sizeLine := Nat.le_trans h (by decide)
theorem Sm.le {n : Nat} {x : Str} (h : Sm n x) (hn : n ≤ 10000 := by decide) : x.length ≤ sizeLine := szle (Nat.le_trans h.1 hn)
theorem Sm.le2 {n m : Nat} {x y : Str} (h : Sm n x) (k : Sm m y) (hn : n + m ≤ 10000 := by decide) : x.length + y.length ≤ sizeLine :=
  szle (Nat.le_trans (Nat.add_le_add h.1 k.1) hn)
theorem atI_some {α : Type} {L : List α} {d : Int} (h0 : 0 ≤ d) (h1 : d < L.length) : ∃ c, atI L d = some c ∧ c ∈ L := by
  obtain ⟨j, rfl⟩ := Int.eq_ofNat_of_zero_le h0
  have hj : j < L.length := by omega
  exact ⟨L[j], atI_nat (List.getElem?_eq_getElem hj), List.getElem_mem hj⟩
/-- what isinstance(x, str) says of a datum -/
theorem Sh.ty {K : PySem.W.Frag} {nd : Bool} {H : Hp} {v : V} {d : PyData} (h : Sh K nd H v d) :
    ∃ T : String, TyX K H v (.type T) ∧ ((∃ x, v = .str x ∧ T = "str") ∨ ((∀ x, v ≠ .str x) ∧ (T = "NoneType" ∨ T = "bool" ∨ T = "int" ∨ T = "list" ∨ T = "tuple" ∨ T = "dict"))) := by
  cases h with
  | non => exact ⟨_, .base .non, .inr ⟨(fun x e => nomatch e), by simp⟩⟩
  | bl b => exact ⟨_, .base (.bl b), .inr ⟨(fun x e => nomatch e), by simp⟩⟩
  | int i => exact ⟨_, .base (.int i), .inr ⟨(fun x e => nomatch e), by simp⟩⟩
  | str x => exact ⟨_, .base (.str x), .inl ⟨x, rfl, rfl⟩⟩
  | lst hs _ _ =>
    refine ⟨"list", ?_, .inr ⟨(fun x e => nomatch e), by simp⟩⟩
    rcases hs with (h | ⟨o, h⟩) | ⟨o, its, n, hk, hc, _⟩
    · exact .base (.lst h)
    · exact .base (.frz h)
    · exact .kList hk hc
  | tup hs _ =>
    refine ⟨"tuple", ?_, .inr ⟨(fun x e => nomatch e), by simp⟩⟩
    rcases hs with (h | ⟨o, h⟩) | ⟨o, its, n, hk, hc, _⟩
    · exact .base (.tup h)
    · exact .fTuple h
    · exact .kTuple hk hc
  | dict _ h _ _ => exact ⟨"dict", .base (.dK h), .inr ⟨(fun x e => nomatch e), by simp⟩⟩
mutual
theorem Sh.same {K : PySem.W.Frag} {nd : Bool} {H H' : Hp} (s : Same H H') : ∀ {v : V} {d : PyData}, Sh K nd H v d → Sh K nd H' v d
  | _, _, .non => .non
  | _, _, .bl b => .bl b
  | _, _, .int i => .int i
  | _, _, .str x => .str x
  | _, _, .lst h1 h2 h3 => .lst (s.seq h1) h2 (ShAll.same s h3)
  | _, _, .tup h1 h3 => .tup (by
      rcases h1 with (h | ⟨o, h⟩) | h
      · exact .inl (.inl (s _ _ h))
      · exact .inl (.inr ⟨o, s _ _ h⟩)
      · exact .inr h) (ShAll.same s h3)
  | _, _, .dict e h1 h2 h3 => .dict e (s _ _ h1) (ShAll.same s h2) (ShAll.same s h3)
theorem ShAll.same {K : PySem.W.Frag} {nd : Bool} {H H' : Hp} (s : Same H H') : ∀ {vs : List V} {ds : List PyData}, ShAll K nd H vs ds → ShAll K nd H' vs ds
  | _, _, .nil => .nil
  | _, _, .cons h1 h2 => .cons (Sh.same s h1) (ShAll.same s h2)
end
/-! ### f(k = v): keywords alone -/
section
variable {X : Cx} {CX : CXT} {k : Nat} {f : Addr} {fd : FuncData} {ps ks : List Str} {sp : Sp} {E : XK}
  {x : Str} {p pos : Pos} {kws : List Keyword} {tk : TA}
  {g : List Value → List Value → List Value} {gV : List V → List V → List V}
theorem pe_kwOnly (F : FnOk X.prog X.w X.K X.mg X.base CX k f fd ps sp) (hr : Room k X.A) (hg : Gl X x)
    (hm : X.mg x = some (.ref f)) (hk : PySem.W.keepIn X.K (.ref f) = true) (hb : KBinds X.K fd ps ks g gV)
    (hx : Passes CX X E) (hkw : PK X kws tk)
    (hall : (backToKw pos (keywordEach kws X.env)).all (·.1.isSome) = true := by rfl)
    (hks : (backToKw pos (keywordEach kws X.env)).filterMap (·.1) = ks := by rfl)
    (hdb : (x == ("__debug__" : Str)) = false := by decide)
    (hpl : ((backTo pos (starEach [] X.env)).any (·.1) || (backToKw pos (keywordEach kws X.env)).any (·.1.isNone)) = false := by rfl) :
    PE X (.Call (.Name x p) [] kws pos) (tCallK sp gV E tNil tk) := by
  constructor
  intro pins s σ H Q I h
  refine wpAny_Call_Name_kw (ld_glob I hg hm ?_ hdb)
  refine PySem.W.callWith_KW0 (h₀ := X.base) I.ok.mod.kin hk hall ?_ hpl
  refine thn (hkw.run pos pins s σ H _ I h) fun ws s2 ⟨zs, H2, I2, rz, q2⟩ => ⟨I2.kIn, ?_⟩
  rw [hks]
  exact run_fnk (us := []) (vs := []) F hr hb hx I2 .nil rz q2
end
end Kv
/-! Data that are small enough to be shown. -/
namespace Kv
open PySem PySem.Spec PyProof.Rows L2
def Fit (n m : Nat) (d : PyData) : Prop := d.showable = true ∧ d.leavesShort 250 = true ∧ d.weight ≤ n ∧ d.depth ≤ m
def FitAll (n m : Nat) (ds : List PyData) : Prop :=
  PyData.showableAll ds = true ∧ PyData.leavesShortAll 250 ds = true ∧ PyData.weightAll ds ≤ n ∧ PyData.depthAll ds ≤ m
def FitKv (n m : Nat) (ds : List (PyData × PyData)) : Prop :=
  PyData.showableKv ds = true ∧ PyData.leavesShortKv 250 ds = true ∧ PyData.weightKv ds ≤ n ∧ PyData.depthKv ds ≤ m
theorem Fit.mono {n m n' m' : Nat} {d : PyData} (h : Fit n m d) (a : n ≤ n') (b : m ≤ m') : Fit n' m' d :=
  ⟨h.1, h.2.1, Nat.le_trans h.2.2.1 a, Nat.le_trans h.2.2.2 b⟩
theorem FitAll.mono {n m n' m' : Nat} {d : List PyData} (h : FitAll n m d) (a : n ≤ n') (b : m ≤ m') : FitAll n' m' d :=
  ⟨h.1, h.2.1, Nat.le_trans h.2.2.1 a, Nat.le_trans h.2.2.2 b⟩
theorem fit_non : Fit 0 0 .none := ⟨by simp [PyData.showable], by simp [PyData.leavesShort], by simp [PyData.weight], by simp [PyData.depth]⟩
theorem fit_bl {b : Bool} : Fit 0 0 (.bool b) := ⟨by simp [PyData.showable], by simp [PyData.leavesShort], by simp [PyData.weight], by simp [PyData.depth]⟩
theorem log2_small {i : Int} (h : i.natAbs ≤ 10 ^ 60) : i.natAbs.log2 < 200 := by
  by_cases h0 : i.natAbs = 0
  · rw [h0]
    decide
  · exact (Nat.log2_lt h0).mpr (Nat.lt_of_le_of_lt h (by decide))
theorem fit_int {i : Int} (h : i.natAbs ≤ 10 ^ 60) : Fit 200 0 (.int i) := by
  have hl := log2_small h
  refine ⟨?_, ?_, ?_, by simp [PyData.depth]⟩
  · simp only [PyData.showable, decide_eq_true_eq]
    omega
  · simp only [PyData.leavesShort]
    refine decide_eq_true ?_
    have e := int_text_length_le (k := 200) (by decide) hl
    have e2 : (PyData.shown (.int i)).length = (toString i).length := by
      simp only [PyData.shown]
      exact PySem.ofString_length _
    omega
  · simp only [PyData.weight]
    split <;> omega
theorem Sm.fit {n : Nat} {x : Str} (h : Sm n x) : Fit n 0 (.str x) := by
  refine ⟨by simp [PyData.showable], ?_, ?_, by simp [PyData.depth]⟩
  · simp only [PyData.leavesShort, List.all_eq_true, decide_eq_true_eq]
    intro c hc
    exact Nat.lt_trans (h.2 c hc) (by decide)
  · simp only [PyData.weight]
    exact h.1
theorem fitAll_nil {m : Nat} : FitAll 0 m [] := ⟨by simp [PyData.showableAll], by simp [PyData.leavesShortAll], by simp [PyData.weightAll], by simp [PyData.depthAll]⟩
theorem FitAll.cons {n n' m : Nat} {d : PyData} {ds : List PyData} (a : Fit n m d) (b : FitAll n' m ds) : FitAll (n + 1 + n') m (d :: ds) := by
  obtain ⟨a1, a2, a3, a4⟩ := a
  obtain ⟨b1, b2, b3, b4⟩ := b
  refine ⟨?_, ?_, ?_, ?_⟩
  · simp only [PyData.showableAll, a1, b1, Bool.and_self]
  · simp only [PyData.leavesShortAll, a2, b2, Bool.and_self]
  · simp only [PyData.weightAll]
    omega
  · simp only [PyData.depthAll]
    omega
theorem Fit.lst {n m : Nat} {ds : List PyData} (a : FitAll n m ds) : Fit n (m + 1) (.list ds) := by
  obtain ⟨a1, a2, a3, a4⟩ := a
  refine ⟨?_, ?_, ?_, ?_⟩
  · simp only [PyData.showable, a1]
  · simp only [PyData.leavesShort, a2]
  · simp only [PyData.weight]
    omega
  · simp only [PyData.depth]
    omega
theorem Fit.tup {n m : Nat} {ds : List PyData} (a : FitAll n m ds) : Fit n (m + 1) (.tuple ds) := by
  obtain ⟨a1, a2, a3, a4⟩ := a
  refine ⟨?_, ?_, ?_, ?_⟩
  · simp only [PyData.showable, a1]
  · simp only [PyData.leavesShort, a2]
  · simp only [PyData.weight]
    omega
  · simp only [PyData.depth]
    omega
theorem fitKv_nil {m : Nat} : FitKv 0 m [] := ⟨by simp [PyData.showableKv], by simp [PyData.leavesShortKv], by simp [PyData.weightKv], by simp [PyData.depthKv]⟩
theorem Fit.consKv {n n' n2 m : Nat} {d e : PyData} {ds : List (PyData × PyData)} (a : Fit n m d) (c : Fit n2 m e) (b : FitKv n' m ds) : FitKv (n + n2 + 2 + n') m ((d, e) :: ds) := by
  obtain ⟨a1, a2, a3, a4⟩ := a
  obtain ⟨b1, b2, b3, b4⟩ := b
  obtain ⟨c1, c2, c3, c4⟩ := c
  refine ⟨?_, ?_, ?_, ?_⟩
  · simp only [PyData.showableKv, a1, b1, c1, Bool.and_self]
  · simp only [PyData.leavesShortKv, a2, b2, c2, Bool.and_self]
  · simp only [PyData.weightKv]
    omega
  · simp only [PyData.depthKv]
    omega
theorem Fit.dict {n m : Nat} {ds : List (PyData × PyData)} (a : FitKv n m ds) : Fit n (m + 1) (.dict ds) := by
  obtain ⟨a1, a2, a3, a4⟩ := a
  refine ⟨?_, ?_, ?_, ?_⟩
  · simp only [PyData.showable, a1]
  · simp only [PyData.leavesShort, a2]
  · simp only [PyData.weight]
    omega
  · simp only [PyData.depth]
    omega
theorem Fit.ok {n m : Nat} {d : PyData} (h : Fit n m d) (hn : n ≤ 60000) (hm : m ≤ 60) : d.showable = true ∧ d.shown.length ≤ sizeLine ∧ d.depth ≤ 60 := by
  obtain ⟨h1, h2, h3, h4⟩ := h
  refine ⟨h1, ?_, by omega⟩
  have := PyData.shown_le 250 (by decide) d h2
  rw [sizeLine_eq]
  omega
/-- a value that can be shown -/
def Good (K : PySem.W.Frag) (H : Hp) (v : V) : Prop := ∃ (nd : Bool) (d : PyData), Sh K nd H v d ∧ Fit 2000 20 d ∧ ∀ x, v = .str x → Sm 1000 x
theorem Good.same {K : PySem.W.Frag} {H H' : Hp} {v : V} (g : Good K H v) (s : Same H H') : Good K H' v := by
  obtain ⟨nd, d, h, r⟩ := g
  exact ⟨nd, d, h.same s, r⟩
theorem Good.non {K : PySem.W.Frag} {H : Hp} : Good K H .non := ⟨true, _, .non, fit_non.mono (by decide) (by decide), fun x e => nomatch e⟩
theorem Good.bl {K : PySem.W.Frag} {H : Hp} {b : Bool} : Good K H (.bl b) := ⟨true, _, .bl b, fit_bl.mono (by decide) (by decide), fun x e => nomatch e⟩
theorem Good.int {K : PySem.W.Frag} {H : Hp} {i : Int} (h : i.natAbs ≤ 10 ^ 60) : Good K H (.int i) := ⟨true, _, .int i, (fit_int h).mono (by decide) (by decide), fun x e => nomatch e⟩
theorem Good.str {K : PySem.W.Frag} {H : Hp} {x : Str} {n : Nat} (h : Sm n x) (hn : n ≤ 1000 := by decide) : Good K H (.str x) :=
  ⟨true, _, .str x, h.fit.mono (by omega) (by decide), fun y e => by
    cases e
    exact h.mono hn⟩
end Kv
/-! len(set(t)), t a tuple of texts, of any number. -/
namespace Kv
open PySem PySem.Spec PyProof.Rows L2
/-- how many different texts stand among the first i -/
def met (xs : List Str) : Nat → Nat
  | 0 => 0
  | i + 1 => if (xs.take i).any (· == xs.getD i Str.empty) then met xs i else met xs i + 1
theorem met_le (xs : List Str) : ∀ i, met xs i ≤ i
  | 0 => Nat.le_refl _
  | i + 1 => by
    have := met_le xs i
    show (if _ then met xs i else met xs i + 1) ≤ _
    split
    · exact Nat.le_succ_of_le this
    · exact Nat.succ_le_succ this
theorem met_nodup {xs : List Str} (h : xs.Nodup) : ∀ i, i ≤ xs.length → met xs i = i
  | 0, _ => rfl
  | i + 1, hi => by
    have ih := met_nodup h i (by omega)
    show (if _ then met xs i else met xs i + 1) = _
    have e : (xs.take i).any (· == xs.getD i Str.empty) = false := by
      rw [List.any_eq_false]
      intro y hy hb
      have hb2 : y = xs.getD i Str.empty := by simpa using hb
      rw [List.getD_eq_getElem?_getD, List.getElem?_eq_getElem (by omega : i < xs.length)] at hb2
      have hb3 : y = xs[i] := hb2
      obtain ⟨j, hj, e1⟩ := List.getElem_of_mem hy
      rw [List.getElem_take] at e1
      have hj2 : j < i := by
        rw [List.length_take] at hj
        omega
      exact (List.pairwise_iff_getElem.mp h j i (by omega) (by omega) hj2) (by rw [e1, hb3])
    rw [e]
    show met xs i + 1 = i + 1
    rw [ih]
section
variable {prog : Program} {w : World} {A : Around} {R : Result → Shared → Prop} {I : Addr} {fp wr : List Addr}
  {G : Array GenState → Array GenState → Prop} {n : Nat} {P : Nat → Value → Prop} {Z : Nat → Shared → Prop}
/-- what the set holds behind i turns -/
abbrev SetBy (prog : Program) (w : World) (h : Heap) (a : Addr) (xs : List Str) (i : Nat) : Prop :=
  h.SetOf (PySem.strKind prog w) a (fun y => (xs.take i).any (· == y)) (met xs i)
theorem SetBy.kept {h h2 : Heap} {a : Addr} {xs : List Str} {i : Nat} (q : SetBy prog w h a xs i)
    (k : ∀ o, h.get? a = some o → h2.get? a = some o) : SetBy prog w h2 a xs i := by
  obtain ⟨o, es, ep, tb, ho, rest⟩ := q
  exact ⟨o, es, ep, tb, k _ ho, rest⟩
theorem fill_texts (W : WalksS prog w A.in1 I fp wr G n P Z) (a : Addr) (ha : a ∉ fp) (xs : List Str)
    (hl : xs.length = n) (hn : n + 1 < scanBound) (hv : ∀ i v, P i v → ∃ t, v = .str (xs.getD i Str.empty) t) :
    ∀ (k i : Nat) (s : Shared), n - i = k → i ≤ n → Z i s → SetBy prog w s.heap a xs i →
      (∀ s2, Moved (a :: wr) G s s2 → SetBy prog w s2.heap a xs n → R (.ok (.ret .none)) s2) →
      codeAny (model prog w) A (.builtin "set.update.loop" ⟨[.ref a, .ref I], []⟩) R s := by
  have haw : a ∉ wr := fun z => ha (W.sub _ z)
  have sub : ∀ b ∈ wr, b ∈ a :: wr := fun b hb => List.mem_cons_of_mem _ hb
  intro k
  induction k with
  | zero =>
    intro i s hk hi hz hS hR
    obtain rfl : i = n := by omega
    refine codeAny_builtin PyProof.Rows.F.entry_set_update_loop ?_
    rw [Around.under_plainId PyProof.Rows.F.plain_set_update_loop _]
    show wpAny _ A.in1 (pyNext (.ref I) >>= _) _ _ s
    refine wpAny_bind (W.done s _ _ hz ?_)
    intro s2 hm
    show wpAny _ A.in1 (ret Value.none) _ _ s2
    refine wpAny_pure (hR s2 (hm.mono sub) (hS.kept ?_))
    intro o ho
    exact hm.heap a _ haw ho
  | succ k ih =>
    intro i s hk hi hz hS hR
    have lt : i < n := by omega
    have mle := met_le xs i
    refine codeAny_builtin PyProof.Rows.F.entry_set_update_loop ?_
    rw [Around.under_plainId PyProof.Rows.F.plain_set_update_loop _]
    show wpAny _ A.in1 (pyNext (.ref I) >>= _) _ _ s
    refine wpAny_bind (W.item i s _ _ lt hz ?_)
    intro v s2 hP hz2 hm
    obtain ⟨t, rfl⟩ := hv i v hP
    have hS2 : SetBy prog w s2.heap a xs i := hS.kept fun o ho => hm.heap a _ haw ho
    show wpAny _ A.in1 (holding [Value.str (xs.getD i Str.empty) t]
      (setAdd a (.str (xs.getD i Str.empty) t)) >>= _) _ _ s2
    refine wpAny_bind (wpAny_holding ?_)
    unfold setAdd
    refine wpAny_holding ?_
    refine wpAny_bind ((PySem.strKind prog w).pyHash (k := xs.getD i Str.empty) (strKind_is _ _ _ _) ?_)
    refine wpAny_setAddHashed_of (knd := PySem.strKind prog w) (s := { s2 with toks := s2.toks + 1 })
      (strKind_is _ _ _ _) rfl hS2 (by omega) ?_
    intro h3 same hS3
    have hS4 : SetBy prog w h3 a xs (i + 1) := by
      refine SetOf_congr hS3 ?_ rfl
      intro y
      have ei : xs[i]? = some (xs.getD i Str.empty) := by
        rw [List.getD_eq_getElem?_getD, List.getElem?_eq_getElem (by omega : i < xs.length)]
        rfl
      rw [List.take_add_one, ei, List.any_append]
      congr 1
      show decide (y = xs.getD i Str.empty) = ([xs.getD i Str.empty].any (· == y))
      simp only [List.any_cons, List.any_nil, Bool.or_false]
      by_cases e : y = xs.getD i Str.empty
      · rw [decide_eq_true e, ← e]
        exact (beq_self_eq_true y).symm
      · rw [decide_eq_false e]
        exact (beq_eq_false_iff_ne.mpr fun z => e z.symm).symm
    refine wpAny_pure ⟨plainId_quiet PyProof.Rows.F.plain_set_update_loop _, ?_⟩
    refine ih (i + 1) _ (by omega) lt (W.frame _ s2 _ _ hz2 (Nat.le_succ _) ?_) hS4 ?_
    · intro b hb o e
      rw [same.2 b (fun z : b = a => ha (z ▸ hb))]
      exact e
    · intro s5 hm5 hS5
      refine hR s5 (Moved.trans W.gtrans ((hm.mono sub).then_heap (Nat.le_succ _) ?_) hm5) hS5
      intro b o hb e
      rw [same.2 b (fun z : b = a => hb (z ▸ List.mem_cons_self))]
      exact e
end
/-- an empty new set -/
abbrev emptySet (led : Bool) : Obj := { cls := .type "set", dict := none, data := .set #[] 0 (.fresh 0 0 led) }
section
variable {prog : Program} {w : World} {A : Around} {E : Value → Shared → Prop} {s : Shared}
set_option maxHeartbeats 3200000 in
theorem set_of_texts {t : Addr} {its : Array Value} {xs : List Str} {Q : Value → Shared → Prop}
    (hh : A.handled = none) (ht : s.heap.IsTuple t its) (hx : PyProof.Rows.StrsAre its.toList xs)
    (hb : xs.length + 1 < scanBound)
    (h : ∀ (h2 : Heap) (tk : Nat), SetBy prog w h2 s.heap.objs.size xs its.size →
      (∀ b o, b < s.heap.objs.size → s.heap.get? b = some o → h2.get? b = some o) →
      Q (.ref s.heap.objs.size) { s with heap := h2, toks := tk }) :
    wpAny (model prog w) A (call (.type "set") [.ref t]) Q E s := by
  obtain ⟨cc, ctl, hmro⟩ := PySem.F.called_set.mro
  have k1 := PySem.F.called_set.made
  have k2 := PySem.F.called_set.sub
  have k3 := PySem.F.called_set.notType
  have k4 := PySem.F.called_set.canCreate
  have k5 := PySem.F.typeCall_set_1 (.ref t)
  refine wpAny_call (codeAny_of_tree ?_)
  show wpAny _ _ (callAny (.type "set") _) _ _ _
  refine wpAny_pure ⟨Code.quiet_builtin _ (by decide +kernel),
    codeAny_builtin PySem.F.entry_type_call ?_⟩
  rw [Around.under_plain (weight_type_call_type "set" [.ref t] []) rfl]
  repeat (any_goals (first | assumption | wp_step))
  refine codeAny_mono (code_set_new_1 (.ref t) (E := E)
    (Q₁ := fun obj s1 => ∃ led : Bool, obj = .ref s.heap.objs.size ∧
      s1 = { s with heap := s.heap.push (emptySet led) }) fun led => ⟨led, rfl, rfl⟩) fun r s1 hr => ?_
  cases r with
  | error e => exact hr
  | ok fl =>
    cases fl with
    | next => exact hr.elim
    | brk => exact hr.elim
    | cont => exact hr.elim
    | ret obj =>
      obtain ⟨led, rfl, rfl⟩ := hr
      have hS : (s.heap.push (emptySet led)).get? s.heap.objs.size = some (emptySet led) :=
        Heap.get?_push_size _ rfl
      have hT : Shared.TypeIs { s with heap := s.heap.push (emptySet led) }
        (.ref s.heap.objs.size) "set" := ⟨_, hS, rfl⟩
      have k6 := PySem.F.called_set.init.lookup
      have k7 := PySem.F.called_set.init.bind (.ref s.heap.objs.size)
      repeat (any_goals (first | assumption | wp_step))
      refine codeAny_mono (codeAny_call_builtin
        (R := wants (fun r s2 => r = .none ∧ ∃ h2 tk, s2 = { s with heap := h2, toks := tk } ∧
          SetBy prog w h2 s.heap.objs.size xs its.size ∧
          (∀ b o, b < s.heap.objs.size → s.heap.get? b = some o → h2.get? b = some o)) E)
        PySem.F.called_set.init.plain PySem.F.entry_set_init (check_set_init_1 hT ?_)) fun r2 s2 hr2 => ?_
      · obtain ⟨ot, hot, hc, nt, hd⟩ := ht
        obtain ⟨c1, d1, dt, sl⟩ := ot
        simp only at hc hd
        subst hc hd
        have hot2 := Heap.get?_push_of_some (emptySet led) hot
        have k8 := PySem.F.sub_tuple_set
        have k9 := PySem.F.sub_tuple_frozenset
        have k10 : (Value.type "tuple" == Value.type "dict") = false := by decide
        have ht1 : (s.heap.push (emptySet led)).IsTuple t its := ⟨_, hot2, rfl, nt, rfl⟩
        unfold Builtin.«set.__init__» noKeywords Builtin.Frozenset.updateFrom
        generalize hPI : pyIter = PI
        wp_walk
        subst hPI
        refine wpAny_pyIter_tuple ht1 ?_
        refine wpAny_bind (wpAny_runValue ?_)
        have ltS : t < s.heap.objs.size := Heap.lt_size hot
        have hh3 : A.in1.in1.in1.handled = none := by simp [hh]
        have ne1 : t ≠ (s.heap.push (emptySet led)).objs.size := by
          rw [Heap.size_push]
          exact Nat.ne_of_lt (Nat.lt_succ_of_lt ltS)
        have nf : s.heap.objs.size ∉ [(s.heap.push (emptySet led)).objs.size, t] := by
          rw [Heap.size_push]
          intro z
          rcases List.mem_cons.mp z with y | y
          · exact absurd y (Nat.ne_of_lt (Nat.lt_succ_self _))
          · exact absurd (List.mem_singleton.mp y) (Nat.ne_of_gt ltS)
        have sz : xs.length = its.size := by
          rw [← StrsAre.len_eq hx, Array.length_toList]
        refine fill_texts ((Walks.tuple hh3 _ t ne1 its).toS) s.heap.objs.size nf xs sz (by omega)
          (fun i v e => SS.strs_at hx i v (by rw [Array.getElem?_toList]; exact e)) (its.size - 0) 0 _ (by omega) (Nat.zero_le _)
          ⟨⟨_, Heap.get?_push_size _ rfl, rfl, rfl⟩, (ht1.push _)⟩ ?c0 ?c1
        case c0 =>
          refine PyProof.Rows.SetOf_congr ((PyProof.Rows.setObjOf_fresh (knd := PySem.strKind prog w) led).setOf
            (Heap.get?_push_of_some _ hS) (by unfold scanBound; omega)) (fun _ => rfl) rfl
        case c1 =>
          intro s3 hm hS3
          obtain ⟨h3, g3, d3, tk3, os3⟩ := s3
          obtain rfl : g3 = s.gens := hm.gens
          obtain rfl : d3 = s.drawn := hm.drawn
          obtain rfl : os3 = s.os := hm.os
          show wpAny _ _ _ _ _ _
          refine wpAny_pure ?_
          show wpAny _ _ (ret Value.none) _ _ _
          refine wpAny_pure ⟨rfl, h3, tk3, rfl, hS3, ?_⟩
          intro b o hb e
          refine hm.heap b o ?_ (Heap.get?_push_of_some _ (Heap.get?_push_of_some _ e))
          intro z
          rcases List.mem_cons.mp z with y | y
          · exact absurd y (Nat.ne_of_lt hb)
          · have y2 := List.mem_singleton.mp y
            rw [Heap.size_push] at y2
            exact absurd y2 (Nat.ne_of_lt (Nat.lt_succ_of_lt hb))
      · cases r2 with
        | error e => exact hr2
        | ok fl2 =>
          cases fl2 with
          | next => exact hr2.elim
          | brk => exact hr2.elim
          | cont => exact hr2.elim
          | ret r =>
            obtain ⟨rfl, h2, tk, rfl, hS2, kp⟩ := hr2
            repeat (any_goals (first | assumption | wp_step))
            exact h _ _ hS2 kp
end
/-- len(set(t)) -/
def tLenTexts (K : PySem.W.Frag) (ta : TE) : TE := fun σ H Q => ta σ H fun x H1 =>
  ∃ (l : Addr) (xs : List Str), x = .ref l ∧ SqT K H1 l (xs.map V.str) ∧ xs.length ≤ 4000 ∧ Q (.int (met xs xs.length : Nat)) H1
section
variable {X : Cx} {a : Expr} {ta : TE} {p p2 q pos : Pos}
theorem pe_lenTexts (hc : X.calm = true) (hg : Gl X "len") (hm : X.mg "len" = none) (hg2 : Gl X "set")
    (hm2 : X.mg "set" = none) (ha : PE X a ta)
    (na : starEach [a] X.env = (false, eval a X.env) :: starEach [] X.env := by rfl) :
    PE X (.Call (.Name "len" p) [.Call (.Name "set" p2) [a] [] q] [] pos) (tLenTexts X.K ta) := by
  constructor
  intro pins s σ H Q I h
  refine Call_ (ld_blt I hg hm boot_len ?_)
  refine PyProof.Rows.callWith_builtin1
    (PyProof.Rows.args_cons ?_ rfl) rfl rfl
  refine Call_ (ld_blt I hg2 hm2 boot_set ?_)
  refine PyProof.Rows.callWith_type1 (PyProof.Rows.args_cons (thn (ha.run pins s σ H _ I h)
    fun v s1 ⟨x, H1, I1, r1, q1⟩ => PyProof.Rows.args_nil ?_) na) na rfl
  obtain ⟨l, xs, rfl, hq, hn, q1⟩ := q1
  cases r1
  obtain ⟨its, r, pl, hz⟩ := I1.tuple hq
  have hl : its.toArray.size = xs.length := by
    rw [List.size_toArray, ← r.length, List.length_map]
  refine set_of_texts (I1.ok.hd hc) pl (by simpa using strsAre_of r) (by unfold scanBound; omega) ?_
  intro h2 tk hS hk
  refine PyProof.Rows.args_nil ?_
  rw [hl] at hS
  obtain ⟨o, es, ep, t, ho, hex, hd, _, _, _, hf, hsz⟩ := hS
  have I2 : Inv X pins σ H1 { s1 with heap := h2, toks := tk } :=
    I1.kept fun b o e => hk b o (Heap.lt_size e) e
  have mle := met_le xs xs.length
  exact call_len_set ho hex hd hf (by rw [hsz]; omega)
    ⟨.int (met xs xs.length : Nat), H1, I2.tok _, ⟨_, by rw [hsz]⟩, q1⟩
end
end Kv
namespace Kv
open PySem PySem.Spec PyProof.Rows L2
/-- a pot stands at p -/
def PotAt (H : Hp) (p : Addr) : Prop := ∃ r g : Int, H p = some (.lst [.int r, .int g]) ∧ 0 ≤ r ∧ 0 ≤ g ∧ g < 2147483647
/-- all but p is as it was -/
def But (p : Addr) (H H' : Hp) : Prop := ∀ b o, b ≠ p → H b = some o → H' b = some o
theorem But.refl {p : Addr} {H : Hp} : But p H H := fun _ _ _ h => h
theorem But.trans {p : Addr} {H H1 H2 : Hp} (a : But p H H1) (b : But p H1 H2) : But p H H2 :=
  fun c o n h => b c o n (a c o n h)
theorem But.of_same {p : Addr} {H H1 : Hp} (a : Same H H1) : But p H H1 := fun c o _ h => a c o h
theorem same_new {H : Hp} {p : Addr} {o : HO} (h : H p = none) : Same H (upd H p o) := by
  intro b x e
  rw [upd_ne (ne_of_none e h)]
  exact e
theorem PotAt.same {H H' : Hp} {p : Addr} (h : PotAt H p) (s : Same H H') : PotAt H' p := by
  obtain ⟨r, g, e, q⟩ := h
  exact ⟨r, g, s _ _ e, q⟩
theorem divp_small {i j : Int} (hj : 0 < j) (h : j.natAbs < 2 ^ 8000) : CDivP i j := by
  refine ⟨hj, ?_⟩
  have hl : j.natAbs.log2 < 8000 := (Nat.log2_lt (by omega)).mpr h
  show (decide ((if j == 0 then 0 else j.natAbs.log2 / 30 + 1) > 300) && decide (_ > _)) = false
  have z : ¬ ((if j == 0 then 0 else j.natAbs.log2 / 30 + 1) > 300) := by
    split <;> omega
  rw [decide_eq_false z, Bool.false_and]
theorem But.new {p q : Addr} {H H1 : Hp} {o : HO} (a : But p H H1) (n : H1 q = none) : But p H (upd H1 q o) :=
  fun c u nc h => same_new n c u (a c u nc h)
theorem same_new2 {H : Hp} {p : Addr} {o u : HO} (h : H p = none) : Same H (upd (upd H p o) p u) := by
  rw [upd_upd]
  exact same_new h
theorem num_sm {i : Int} (h0 : 0 ≤ i) (h : i.natAbs ≤ 10 ^ 60) : Sm 250 (Str.ofString (toString i)) := by
  obtain ⟨n, rfl⟩ := Int.eq_ofNat_of_zero_le h0
  refine ⟨?_, fun c hc => ?_⟩
  · have e := int_text_length_le (k := 200) (by decide) (log2_small h)
    rw [PySem.ofString_length]
    omega
  · have e : TL.tl (Str.ofString (toString ((n : Nat) : Int))) = TL.numL n := TL.tl_num n
    have hc2 : c ∈ TL.numL n := by
      rw [← e]
      exact hc
    unfold TL.numL at hc2
    obtain ⟨z, hz, rfl⟩ := List.mem_map.mp hc2
    have := Nat.isDigit_of_mem_toDigits (by decide) (by decide) hz
    simp only [Char.isDigit, Bool.and_eq_true, decide_eq_true_eq] at this
    have h2 : z.val.toNat ≤ 57 := this.2
    show z.val.toNat < 128
    omega
theorem But.same {p : Addr} {H0 H H' : Hp} (h : But p H H') (n : H0 p = none) (s : Same H0 H) : Same H0 H' :=
  fun b o e => h b o (ne_of_none e n) (s b o e)
theorem all_true (i : Nat) : (List.replicate i true).all id = true := by
  rw [List.all_eq_true]
  intro b hb
  exact (List.mem_replicate.mp hb).2
def az : List Nat := ("abcdefghijklmnopqrstuvwxyz" : Str).cps.toList
def inAz (c : Nat) : Bool := decide (c ∈ az)
/-- is it a name -/
def nameV : V → Bool
  | .str x => (decide (1 ≤ x.length) && decide (x.length ≤ 8)) && x.cps.toList.all inAz
  | _ => false
theorem nameV_not {v : V} (h : ∀ x, v ≠ .str x) : nameV v = false := by
  cases v with
  | str x => exact absurd rfl (h x)
  | _ => rfl
end Kv
/-! Rows of a hierarchy: names and superclasses. -/
namespace Kv
open PySem PySem.Spec PyProof.Rows L2
abbrev Row2 := Str × List Str
def fsts (rows : List Row2) : List Str := rows.map (·.1)
/-- each row is right behind the rows ahead of it -/
def Valid (rows : List Row2) : Prop := ∀ (i : Nat) (n : Str) (ss : List Str), rows[i]? = some (n, ss) →
  nameV (.str n) = true ∧ n ∉ fsts (rows.take i) ∧ ss.Nodup ∧ ∀ s ∈ ss, s ∈ fsts (rows.take i)
theorem valid_nil : Valid [] := fun i n ss h => by simp at h
theorem Valid.snoc {rows : List Row2} {n : Str} {ss : List Str} (v : Valid rows) (h1 : nameV (.str n) = true)
    (h2 : n ∉ fsts rows) (h3 : ss.Nodup) (h4 : ∀ s ∈ ss, s ∈ fsts rows) : Valid (rows ++ [(n, ss)]) := by
  intro i m ts h
  by_cases hi : i < rows.length
  · rw [List.getElem?_append_left hi] at h
    rw [List.take_append_of_le_length (by omega)]
    exact v i m ts h
  · have hi2 : i = rows.length := by
      have := (List.getElem?_eq_some_iff.mp h).1
      rw [List.length_append] at this
      have h1 : [(n, ss)].length = 1 := rfl
      omega
    subst hi2
    rw [List.getElem?_append_right (Nat.le_refl _), Nat.sub_self] at h
    cases h
    rw [List.take_append_of_le_length (Nat.le_refl _), List.take_length]
    exact ⟨h1, h2, h3, h4⟩
def RowAt (H : Hp) (v : V) (r : Row2) : Prop := ∃ t s, v = .ref t ∧ H t = some (.tup [.str r.1, .ref s]) ∧ H s = some (.tup (r.2.map V.str))
def RowsAre (H : Hp) : List V → List Row2 → Prop := Paired (RowAt H)
theorem RowAt.same {H H' : Hp} (s : Same H H') {v : V} {r : Row2} (h : RowAt H v r) : RowAt H' v r := by
  obtain ⟨t, u, e, h1, h2⟩ := h
  exact ⟨t, u, e, s _ _ h1, s _ _ h2⟩
theorem RowsAre.same {H H' : Hp} (s : Same H H') {vs : List V} {rows : List Row2} (h : RowsAre H vs rows) : RowsAre H' vs rows :=
  Paired.mapP h fun _ _ z => z.same s
/-- what is no list stays through a draw -/
theorem tup_but {H H' : Hp} {p t : Addr} {xs : List V} (hp : PotAt H p) (b : But p H H') (h : H t = some (.tup xs)) : H' t = some (.tup xs) := by
  obtain ⟨r, g, e, _⟩ := hp
  exact b _ _ (ne_of h e (by intro z; cases z)) h
theorem RowAt.but {H H' : Hp} {p : Addr} (hp : PotAt H p) (b : But p H H') {v : V} {r : Row2} (h : RowAt H v r) : RowAt H' v r := by
  obtain ⟨t, u, e, h1, h2⟩ := h
  exact ⟨t, u, e, tup_but hp b h1, tup_but hp b h2⟩
theorem RowsAre.but {H H' : Hp} {p : Addr} (hp : PotAt H p) (b : But p H H') {vs : List V} {rows : List Row2} (h : RowsAre H vs rows) : RowsAre H' vs rows :=
  Paired.mapP h fun _ _ z => z.but hp b
theorem RowsAre.length {H : Hp} {vs : List V} {rows : List Row2} (h : RowsAre H vs rows) : vs.length = rows.length := Paired.length h
theorem RowsAre.snoc {H : Hp} : ∀ {vs : List V} {rows : List Row2} {v : V} {r : Row2}, RowsAre H vs rows → RowAt H v r → RowsAre H (vs ++ [v]) (rows ++ [r])
  | _, _, _, _, .nil, h => .cons h .nil
  | _, _, _, _, .cons a b, h => .cons a (RowsAre.snoc b h)
theorem RowsAre.get {H : Hp} : ∀ {vs : List V} {rows : List Row2} {i : Nat} {v : V}, RowsAre H vs rows → vs[i]? = some v → ∃ r, rows[i]? = some r ∧ RowAt H v r
  | _, _, _, _, .nil, e => by simp at e
  | _, _, 0, _, .cons a _, e => by
    simp at e
    subst e
    exact ⟨_, rfl, a⟩
  | _, _, i + 1, v, .cons _ b, e => by
    obtain ⟨r, h1, h2⟩ := RowsAre.get (i := i) (v := v) b (by simpa using e)
    exact ⟨r, by simpa using h1, h2⟩
theorem RowAt.wr {H : Hp} {R : Addr} {xs : List V} {o : HO} (h : H R = some (.lst xs)) {v : V} {r : Row2} (a : RowAt H v r) : RowAt (upd H R o) v r := by
  obtain ⟨t, u, e, h1, h2⟩ := a
  exact ⟨t, u, e, by rw [upd_ne (ne_of h1 h (by intro z; cases z))]; exact h1, by rw [upd_ne (ne_of h2 h (by intro z; cases z))]; exact h2⟩
theorem RowsAre.wr {H : Hp} {R : Addr} {xs : List V} {o : HO} (h : H R = some (.lst xs)) {vs : List V} {rows : List Row2} (a : RowsAre H vs rows) : RowsAre (upd H R o) vs rows :=
  Paired.mapP a fun _ _ z => z.wr h
theorem fsts_snoc (rows : List Row2) (n : Str) (ss : List Str) : fsts (rows ++ [(n, ss)]) = fsts rows ++ [n] := by
  unfold fsts
  rw [List.map_append]
  rfl
/-! ### permuted texts -/
def unStr : V → Option Str
  | .str x => some x
  | _ => none
theorem unStr_map : ∀ ns : List Str, (ns.map V.str).filterMap unStr = ns
  | [] => rfl
  | n :: r => by
    show n :: (r.map V.str).filterMap unStr = n :: r
    rw [unStr_map r]
theorem map_unStr : ∀ ys : List V, (∀ y ∈ ys, ∃ x, y = .str x) → ys = (ys.filterMap unStr).map V.str
  | [], _ => rfl
  | y :: r, h => by
    obtain ⟨x, rfl⟩ := h y (List.mem_cons_self ..)
    have ih := map_unStr r fun z hz => h z (List.mem_cons_of_mem _ hz)
    show V.str x :: r = V.str x :: (r.filterMap unStr).map V.str
    rw [← ih]
theorem perm_strs {ys : List V} {ns : List Str} (h : ys.Perm (ns.map V.str)) : ∃ ms : List Str, ys = ms.map V.str ∧ ms.Perm ns := by
  refine ⟨ys.filterMap unStr, map_unStr ys fun y hy => ?_, ?_⟩
  · obtain ⟨x, _, e⟩ := List.mem_map.mp (h.mem_iff.mp hy)
    exact ⟨x, e.symm⟩
  · have := h.filterMap unStr
    rw [unStr_map] at this
    exact this
/-! ### letters that are left -/
theorem inV_strs (y : Str) : ∀ xs : List Str, inV (.str y) (xs.map V.str) = decide (y ∈ xs)
  | [] => rfl
  | x :: r => by
    have ih := inV_strs y r
    show (eqV (.str x) (.str y) || inV (.str y) (r.map V.str)) = _
    rw [ih]
    show ((x == y) || decide (y ∈ r)) = decide (y ∈ x :: r)
    by_cases e : x = y
    · subst e
      simp
    · have e2 : (x == y) = false := beq_eq_false_iff_ne.mpr e
      rw [e2, Bool.false_or]
      by_cases h : y ∈ r
      · rw [decide_eq_true h, decide_eq_true (List.mem_cons_of_mem _ h)]
      · rw [decide_eq_false h, decide_eq_false (fun z => by
          rcases List.mem_cons.mp z with z | z
          · exact e z.symm
          · exact h z)]
theorem flats : ∀ xs : List Str, (xs.map V.str).all flatV = true
  | [] => rfl
  | x :: r => by
    show (flatV (.str x) && (r.map V.str).all flatV) = true
    rw [flats r]
    rfl
theorem filter_one {α : Type} [DecidableEq α] (f : α) : ∀ {L : List α}, L.Nodup → L.length ≤ (L.filter fun y => decide (y ≠ f)).length + 1
  | [], _ => Nat.zero_le _
  | x :: r, h => by
    obtain ⟨h1, h2⟩ := List.nodup_cons.mp h
    by_cases e : x = f
    · subst e
      have e2 : r.filter (fun y => decide (y ≠ x)) = r := List.filter_eq_self.mpr fun y hy => decide_eq_true fun z => h1 (z ▸ hy)
      rw [List.filter_cons_of_neg (by simp), e2]
      exact Nat.le_refl _
    · have ih := filter_one f h2
      rw [List.filter_cons_of_pos (by simpa using e), List.length_cons, List.length_cons]
      omega
theorem filter_left {α : Type} [DecidableEq α] : ∀ (F : List α) {L : List α}, L.Nodup → L.length ≤ (L.filter fun y => decide (y ∉ F)).length + F.length
  | [], L, h => by
    have : L.filter (fun y => decide (y ∉ ([] : List α))) = L := List.filter_eq_self.mpr fun y _ => by simp
    rw [this]
    exact Nat.le_add_right _ _
  | f :: F, L, h => by
    have ih := filter_left F h
    have h2 : (L.filter fun y => decide (y ∉ F)).Nodup := h.filter _
    have h3 := filter_one f h2
    have e : (L.filter fun y => decide (y ∉ F)).filter (fun y => decide (y ≠ f)) = L.filter fun y => decide (y ∉ f :: F) := by
      rw [List.filter_filter]
      refine List.filter_congr fun y _ => ?_
      by_cases a : y = f <;> by_cases b : y ∈ F <;> simp [a, b]
    rw [e] at h3
    rw [List.length_cons]
    omega
def letters : List Str := az.map fun c => ⟨#[c]⟩
theorem letters_nodup : letters.Nodup := by decide +kernel
theorem letters_len : letters.length = 26 := by decide +kernel
theorem letter_name : ∀ y ∈ letters, nameV (.str y) = true := by decide +kernel
theorem cut_take {xs : List V} {k : Nat} : cutV xs none (some (k : Int)) = xs.take k := by
  unfold cutV
  rw [HT.sIx_none, HT.sIx_nat, Nat.sub_zero, List.drop_zero]
  by_cases h : k ≤ xs.length
  · rw [Nat.min_eq_left h]
  · rw [Nat.min_eq_right (by omega), List.take_length, List.take_of_length_le (by omega)]
end Kv
/-! for i, x in enumerate(t), t a tuple. -/
namespace Kv
open PySem PySem.Spec PyProof.Rows L2
open AutoSeq1 (wpAny_loadPart')
/-- a tuple's iterator, an enumerate over it -/
abbrev tupIt (t : Addr) : Obj := { cls := .type "tuple_iterator", data := .fields #[.ref t, .int 0 0] }
abbrev enumOf (it : Addr) : Obj := { cls := .type "enumerate", data := .fields #[.none, .bool false, .ref it, rawInt 0, .none, .none] }
set_option maxHeartbeats 1000000 in
theorem enum_new (t : Addr) (items : Array Value) (n : Nat) (dct : Option Addr) (sl : Array (Option Value)) :
    Meets (Builtin.«enumerate.__new__» ⟨[.type "enumerate", .ref t], []⟩) (fun _ R s =>
      s.heap.get? t = some { cls := .type "tuple", dict := dct, data := .seq items n, slots := sl } ∧
      R (.ok (.ret (.ref (s.heap.push (tupIt t)).objs.size)))
        { s with heap := (s.heap.push (tupIt t)).push (enumOf s.heap.objs.size) }) :=
  .of_wp fun prog w A R s h => by
    obtain ⟨hp, g, d, tk, os⟩ := s
    obtain ⟨hl, h⟩ := h
    have hsub := sub_enumerate
    have hT : Heap.IsTuple (Shared.heap ⟨hp, g, d, tk, os⟩) t items :=
      ⟨_, hl, rfl, n, rfl⟩
    wp_walk using wpAny_loadPart' hl
    refine wpAny_stack_any fun st =>
      wpAny_pure ?_
    split
    · rename_i c _ _ _ _ _
      cases (c == Value.type "enumerate") <;>
        (wp_walk using wpAny_loadPart' hl, wpAny_pyIter_tuple hT
         exact ⟨_, rfl, h⟩)
    · wp_walk using wpAny_loadPart' hl, wpAny_pyIter_tuple hT
      exact ⟨_, rfl, h⟩
section
variable {prog : Program} {w : World} {A : Around} {E : Value → Shared → Prop} {s : Shared}
theorem enum_call {t : Addr} {items : Array Value} {Q : Value → Shared → Prop} (hL : s.heap.IsTuple t items)
    (h : ∀ h2, IsEnum h2 (s.heap.objs.size + 1) s.heap.objs.size 0 .none → h2.IsTupleIter s.heap.objs.size t 0 →
      (∀ b o, s.heap.get? b = some o → h2.get? b = some o) →
      Q (.ref (s.heap.objs.size + 1)) { s with heap := h2 }) :
    wpAny (model prog w) A (call (.type "enumerate") [.ref t]) Q E s := by
  obtain ⟨⟨c, dct, dt, sl⟩, hl, hc, n, hd⟩ := hL
  obtain rfl : c = .type "tuple" := hc
  obtain rfl : dt = .seq items n := hd
  refine callType_new F.called_enumerate (by decide) (F.typeCall_enumerate_1 _) (F.newCall_enumerate_1 _)
    (fun obj => F.args_object_init_2 obj _) F.entry_enumerate_new (enum_new t items n dct sl) ⟨hl, ?_⟩
  have hz : (s.heap.push (tupIt t)).objs.size = s.heap.objs.size + 1 := Heap.size_push ..
  show _ ∧ _
  rw [hz]
  have he : IsEnum ((s.heap.push (tupIt t)).push (enumOf s.heap.objs.size)) (s.heap.objs.size + 1) s.heap.objs.size 0 .none := by
    have q := Heap.get?_push_size (s.heap.push (tupIt t)) (o := enumOf s.heap.objs.size) rfl
    rw [hz] at q
    exact q
  refine ⟨⟨_, he, rfl⟩, h _ he ?_ ?_⟩
  · exact ⟨_, Heap.get?_push_of_some _ (Heap.get?_push_size _ rfl), rfl, rfl⟩
  · intro b o x
    exact Heap.get?_push_of_some _ (Heap.get?_push_of_some _ x)
end
/-- the tuple at a as it stands, its items in new pairs -/
def Itet (K : PySem.W.Frag) (a : Addr) : It :=
  ⟨fun i H => ∃ (xs : List V) (x : V), SqT K H a xs ∧ xs[i]? = some x,
   fun i H v H' => ∃ T x, v = .ref T ∧ H T = none ∧ H' = upd H T (.tup [.int (i : Nat), x]) ∧
     ∀ xs, SqT K H a xs → xs[i]? = some x,
   fun i H => ∃ xs : List V, SqT K H a xs ∧ xs.length = i⟩
theorem turn_enumT {P : Program} {w : World} {K : PySem.W.Frag} {elts : List Expr} {kk : Nat} {tpos : Pos} (a e it : Addr) :
    Turn P w K (.Tuple elts kk tpos) (Itet K a) [e, it] e
      (fun i h => (∃ old, IsEnum h e it ((i : Nat) : Int) old) ∧ h.IsTupleIter it a i ∧ e ≠ it ∧ a ≠ it ∧ a ≠ e) where
  mem := by simp
  obj := by
    intro i h st b hb
    obtain ⟨⟨old, he⟩, ⟨o, ho, hc, hd⟩, _⟩ := st
    rcases List.mem_cons.mp hb with z | z
    · rw [z]
      exact ⟨_, he, fun v q => nomatch q⟩
    · rw [List.mem_singleton.mp z]
      exact ⟨o, ho, fun v q => by rw [hd] at q; cases q⟩
  keep := by
    intro i h h2 st k
    obtain ⟨⟨old, he⟩, hi, ne⟩ := st
    exact ⟨⟨old, k e (by simp) _ he⟩, hi.at fun o q => k it (by simp) o q, ne⟩
  item := by
    intro X hP hw hK hc i pins s σ H E I hf st hg
    subst hP hw hK
    obtain ⟨⟨old, he⟩, hit, hne, nai, nae⟩ := st
    obtain ⟨xs, x, hq, hx⟩ := hg
    obtain ⟨its, rv, p, hz⟩ := I.tuple hq
    obtain ⟨u, hu, ru⟩ := rv.get hx
    have lte : e < s.heap.objs.size := Heap.lt_size he
    have lti : it < s.heap.objs.size := by
      obtain ⟨_, q, _⟩ := hit
      exact Heap.lt_size q
    have hil : i < its.toArray.size := by
      rw [List.size_toArray]
      exact (List.getElem?_eq_some_iff.mp hu).1
    refine wpAny_pyNext_enum_itemD (Draws.tuple (A := X.A.in1) (I.ok.hd hc) it a nai its.toArray) he ⟨hit, p⟩ hil hne ?_ ?_
    · intro z
      rcases List.mem_cons.mp z with y | y
      · exact hne y
      · exact nae (List.mem_singleton.mp y).symm
    intro y h2 tk hy ho hit2 hT hsz hk
    obtain rfl : y = u := by
      have hy2 : its.toArray[i]? = some y := hy
      have hu2 : its.toArray[i]? = some u := by simpa using hu
      rw [hu2] at hy2
      exact (Option.some.inj hy2).symm
    refine ⟨_, rfl, wpAny_letOwnedTupleGo_enum (s := { s with heap := h2, toks := tk + 1 }) ho ?_⟩
    intro h3 he3 sb
    have hT3 : h3.get? s.heap.objs.size = some { cls := .type "tuple", data := .seq #[.int i tk, y] } :=
      (sb.2 _ (Nat.ne_of_gt lte)).trans hT
    have new : ObjOk X.prog X.w (upd H s.heap.objs.size (.tup [.int (i : Nat), x])) h3 s.heap.objs.size (.tup [.int (i : Nat), x]) := by
      refine ⟨(by decide : 2 ≤ sizeLine), [.int i tk, y], .cons ⟨_, rfl⟩ (.cons ru .nil), ?_⟩
      exact ⟨_, hT3, rfl, _, rfl⟩
    have I1 : Inv X pins σ (upd H s.heap.objs.size (.tup [.int (i : Nat), x])) { s with heap := h3, toks := tk + 1 } := by
      refine I.turnedNew (ch := [e, it]) ?_ hf (Nat.le_refl _) new
      intro b ob hb q
      have nb1 : b ≠ e := fun z => hb (by simp [z])
      have nb2 : b ≠ it := fun z => hb (by simp [z])
      exact (sb.2 b nb1).trans (hk b ob nb1 nb2 q)
    refine ⟨.ref s.heap.objs.size, _, I1, rfl, ⟨_, x, rfl, I.hok.fresh (Nat.le_refl _), rfl, ?_⟩, ⟨⟨y, ?_⟩, ?_, hne, nai, nae⟩, ?_⟩
    · intro ys hys
      rw [I.tuple_inj hys hq]
      exact hx
    · have e1 : ((i + 1 : Nat) : Int) = (i : Int) + 1 := by omega
      rw [e1]
      exact he3
    · exact hit2.1.at fun o q => (sb.2 it (Ne.symm hne)).trans q
    · intro b hb
      have lb : b < s.heap.objs.size := by
        rcases List.mem_cons.mp hb with z | z
        · rw [z]
          exact lte
        · rw [List.mem_singleton.mp z]
          exact lti
      rw [upd_ne (Nat.ne_of_lt lb)]
      exact (hf b hb).1
  done := by
    intro X hP hw hK hc i pins s σ H E I hf st hg
    subst hP hw hK
    obtain ⟨⟨old, he⟩, hit, hne, nai, nae⟩ := st
    obtain ⟨xs, hq, hx⟩ := hg
    obtain ⟨its, rv, p, hz⟩ := I.tuple hq
    obtain ⟨f0, f1, f2, f3, f4, f5⟩ := hf it (by simp)
    have hl := rv.length
    have ei : its.toArray.size = i := by
      rw [List.size_toArray, ← hl]
      exact hx
    refine wpAny_pyNext_enum_endD (Draws.tuple (A := X.A.in1) (I.ok.hd hc) it a nai its.toArray) he ⟨?_, p⟩ ?_
    · rw [ei]
      exact hit
    · intro h2 eb
      exact ⟨rfl, I.turned (t' := s.toks) (fun b o hb q => eb b o hb q) f0 f1 f3 f4 f5⟩
  self := by
    intro A i s Q E st h
    obtain ⟨⟨_, he⟩, _⟩ := st
    exact wpAny_pyIter_enum he h
/-- enumerate of a list or of a tuple -/
def iEnumS (K : PySem.W.Frag) (ta : TA) : TI := fun σ H R => ta σ H fun vs H1 =>
  (∃ a xs, vs = [.ref a] ∧ SqL K H1 a xs ∧ R (Ite K a) H1) ∨ ∃ a xs, vs = [.ref a] ∧ SqT K H1 a xs ∧ R (Itet K a) H1
theorem pi_enumS {X : Cx} {e : Expr} {ta : TA} {p pos tpos : Pos} {elts : List Expr} {kk : Nat} (hg : Gl X "enumerate")
    (hm : X.mg "enumerate" = none) (ha : PA X [e] ta) (hs : starEach [e] X.env = [(false, eval e X.env)] := by rfl) :
    PI X (.Tuple elts kk tpos) (.Call (.Name "enumerate" p) [e] [] pos) (iEnumS X.K ta) := by
  constructor
  intro pins s σ H R I h
  refine Call_ (ld_blt I hg hm boot_enumerate (PyProof.Rows.callWith_type1
    (thn (ha.run pos pins s σ H _ I h) fun us s1 ⟨vs, H1, I1, r1, q1⟩ => ?_) hs rfl))
  have fresh : ∀ b ∈ [s1.heap.objs.size + 1, s1.heap.objs.size], FpOk X pins H1 b := by
    intro b hb
    have le : s1.heap.objs.size ≤ b := by
      rcases List.mem_cons.mp hb with z | z
      · rw [z]
        exact Nat.le_succ _
      · rw [List.mem_singleton.mp z]
        exact Nat.le_refl _
    exact I1.fpOk le (I1.hok.fresh le)
  rcases q1 with ⟨a, xs, rfl, hq, q⟩ | ⟨a, xs, rfl, hq, q⟩
  · cases r1 with
    | cons r rr =>
      cases rr
      cases r
      obtain ⟨its, rv, pl, hz⟩ := I1.list hq
      refine call_enumerate_list pl.isList fun h2 he hit hsz hk => wpAny_pyIter_enum he ?_
      exact ⟨s1.heap.objs.size + 1, [s1.heap.objs.size + 1, s1.heap.objs.size], _, _, H1, rfl, I1.kept (t' := s1.toks) hk,
        turn_enum a (s1.heap.objs.size + 1) s1.heap.objs.size, ⟨⟨.none, he⟩, hit, Nat.succ_ne_self _⟩, fresh, q⟩
  · cases r1 with
    | cons r rr =>
      cases rr
      cases r
      obtain ⟨its, rv, pl, hz⟩ := I1.tuple hq
      have lta : a < s1.heap.objs.size := by
        obtain ⟨o, ho, _⟩ := pl
        exact Heap.lt_size ho
      refine enum_call pl fun h2 he hit hk => wpAny_pyIter_enum he ?_
      exact ⟨s1.heap.objs.size + 1, [s1.heap.objs.size + 1, s1.heap.objs.size], _, _, H1, rfl, I1.kept (t' := s1.toks) hk,
        turn_enumT a (s1.heap.objs.size + 1) s1.heap.objs.size,
        ⟨⟨.none, he⟩, hit, Nat.succ_ne_self _, Nat.ne_of_lt lta, Nat.ne_of_lt (Nat.lt_succ_of_lt lta)⟩, fresh, q⟩
end Kv
/-! The classes above a class, as a hierarchy keeps them. -/
namespace Kv
open PySem PySem.Spec PyProof.Rows L2
/-- a dict of texts, each with True -/
def flag (as : List Str) : List (Key × V) := as.map fun a => (Sum.inr a, V.bl true)
def addA (acc : List Str) (a : Str) : List Str := if a ∈ acc then acc else acc ++ [a]
def addAll (acc as : List Str) : List Str := as.foldl addA acc
abbrev Tab := List (Str × List Str)
def look (tab : Tab) (x : Str) : List Str := (tab.lookup x).getD []
def ancOf (tab : Tab) (n : Str) (ss : List Str) : List Str := ss.foldl (fun acc s => addAll acc (look tab s)) [n]
def tabKeys (tab : Tab) : List Str := tab.map (·.1)
def ancTab (rows : List Row2) : Tab := rows.foldl (fun tab r => tab ++ [(r.1, ancOf tab r.1 r.2)]) []
theorem keyr_ne {a b : Str} (h : a ≠ b) : ¬ ((Sum.inr a : Key) = Sum.inr b) := fun z => h (Sum.inr.inj z)
theorem valV_flag (a : Str) : ∀ as : List Str, valV (flag as) (Sum.inr a : Key) = if a ∈ as then some (.bl true) else none
  | [] => rfl
  | x :: r => by
    have ih := valV_flag a r
    show valV (((Sum.inr x : Key), V.bl true) :: flag r) _ = _
    by_cases e : x = a
    · subst e
      rw [valV_pos rfl, if_pos (List.mem_cons_self ..)]
    · rw [valV_neg (keyr_ne e), ih]
      by_cases h : a ∈ r
      · rw [if_pos h, if_pos (List.mem_cons_of_mem _ h)]
      · rw [if_neg h, if_neg (fun z => by
          rcases List.mem_cons.mp z with z | z
          · exact e z.symm
          · exact h z)]
theorem flag_map (a : Str) : ∀ as : List Str, (flag as).map (fun kv => if kv.1 = (Sum.inr a : Key) then (kv.1, V.bl true) else kv) = flag as
  | [] => rfl
  | x :: r => by
    show (if (Sum.inr x : Key) = Sum.inr a then ((Sum.inr x : Key), V.bl true) else ((Sum.inr x : Key), V.bl true)) :: (flag r).map _ = ((Sum.inr x : Key), V.bl true) :: flag r
    rw [flag_map a r]
    split <;> rfl
theorem put_flag (acc : List Str) (a : Str) : putK (flag acc) (Sum.inr a : Key) (.bl true) = flag (addA acc a) := by
  unfold putK addA
  rw [valV_any, valV_flag]
  by_cases h : a ∈ acc
  · rw [if_pos h, if_pos h]
    rw [if_pos (by rfl : (some (V.bl true)).isSome = true)]
    exact flag_map a acc
  · rw [if_neg h, if_neg h]
    show (if (none : Option V).isSome = true then _ else _) = _
    rw [if_neg (by simp)]
    unfold flag
    rw [List.map_append]
    rfl
theorem flag_len (as : List Str) : (flag as).length = as.length := List.length_map _
theorem addA_nodup {acc : List Str} {a : Str} (h : acc.Nodup) : (addA acc a).Nodup := by
  unfold addA
  split
  · exact h
  · rename_i hn
    rw [List.nodup_append]
    refine ⟨h, List.pairwise_singleton _ _, fun x hx y hy => ?_⟩
    rw [List.mem_singleton.mp hy]
    rintro rfl
    exact hn hx
theorem mem_addA {acc : List Str} {a x : Str} : x ∈ addA acc a ↔ x ∈ acc ∨ x = a := by
  unfold addA
  split
  · rename_i h
    constructor
    · exact Or.inl
    · rintro (z | rfl)
      · exact z
      · exact h
  · rw [List.mem_append, List.mem_singleton]
theorem addAll_snoc (acc as : List Str) (a : Str) : addAll acc (as ++ [a]) = addA (addAll acc as) a := by
  unfold addAll
  rw [List.foldl_append]
  rfl
theorem addAll_take {as : List Str} {i : Nat} {a : Str} (acc : List Str) (h : as[i]? = some a) : addAll acc (as.take (i + 1)) = addA (addAll acc (as.take i)) a := by
  rw [List.take_add_one, h]
  exact addAll_snoc ..
theorem addAll_nodup : ∀ {as acc : List Str}, acc.Nodup → (addAll acc as).Nodup
  | [], _, h => h
  | a :: r, acc, h => addAll_nodup (as := r) (addA_nodup h)
theorem mem_addAll {x : Str} : ∀ {as acc : List Str}, x ∈ addAll acc as ↔ x ∈ acc ∨ x ∈ as
  | [], acc => by
    show x ∈ acc ↔ _
    simp
  | a :: r, acc => by
    show x ∈ addAll (addA acc a) r ↔ _
    rw [mem_addAll, mem_addA, List.mem_cons]
    constructor
    · rintro ((z | z) | z)
      · exact Or.inl z
      · exact Or.inr (Or.inl z)
      · exact Or.inr (Or.inr z)
    · rintro (z | z | z)
      · exact Or.inl (Or.inl z)
      · exact Or.inl (Or.inr z)
      · exact Or.inr z
/-- the classes found behind i superclasses -/
def ancAt (tab : Tab) (n : Str) (ss : List Str) (i : Nat) : List Str := ancOf tab n (ss.take i)
theorem ancAt_next {tab : Tab} {n : Str} {ss : List Str} {i : Nat} {s : Str} (h : ss[i]? = some s) : ancAt tab n ss (i + 1) = addAll (ancAt tab n ss i) (look tab s) := by
  unfold ancAt ancOf
  rw [List.take_add_one, h, List.foldl_append]
  rfl
theorem ancOf_nodup {tab : Tab} {n : Str} {ss : List Str} : (ancOf tab n ss).Nodup := by
  unfold ancOf
  have : ∀ (l acc : List Str), acc.Nodup → (l.foldl (fun acc s => addAll acc (look tab s)) acc).Nodup := by
    intro l
    induction l with
    | nil => intro acc h; exact h
    | cons a r ih => intro acc h; exact ih _ (addAll_nodup h)
  exact this ss [n] (List.pairwise_singleton _ _)
theorem mem_ancOf {tab : Tab} {n x : Str} {ss : List Str} : x ∈ ancOf tab n ss ↔ x = n ∨ ∃ s ∈ ss, x ∈ look tab s := by
  have : ∀ (l acc : List Str), x ∈ l.foldl (fun acc s => addAll acc (look tab s)) acc ↔ x ∈ acc ∨ ∃ s ∈ l, x ∈ look tab s := by
    intro l
    induction l with
    | nil => intro acc; simp
    | cons a r ih =>
      intro acc
      show x ∈ r.foldl _ (addAll acc (look tab a)) ↔ _
      rw [ih, mem_addAll]
      constructor
      · rintro ((z | z) | ⟨s, hs, z⟩)
        · exact Or.inl z
        · exact Or.inr ⟨a, List.mem_cons_self .., z⟩
        · exact Or.inr ⟨s, List.mem_cons_of_mem _ hs, z⟩
      · rintro (z | ⟨s, hs, z⟩)
        · exact Or.inl (Or.inl z)
        · rcases List.mem_cons.mp hs with rfl | hs
          · exact Or.inl (Or.inr z)
          · exact Or.inr ⟨s, hs, z⟩
  unfold ancOf
  rw [this, List.mem_singleton]
/-- each entry holds known classes -/
def TabOk (tab : Tab) : Prop := ∀ (x : Str) (as : List Str), (x, as) ∈ tab → as.Nodup ∧ ∀ a ∈ as, a ∈ tabKeys tab
theorem mem_look {tab : Tab} : ∀ {x : Str}, x ∈ tabKeys tab → (x, look tab x) ∈ tab := by
  induction tab with
  | nil => intro x h; cases h
  | cons p r ih =>
    intro x h
    obtain ⟨y, as⟩ := p
    unfold look
    rw [List.lookup_cons]
    by_cases e : x = y
    · subst e
      rw [beq_self_eq_true]
      exact List.mem_cons_self ..
    · rw [beq_eq_false_iff_ne.mpr e]
      refine List.mem_cons_of_mem _ (ih ?_)
      rcases List.mem_cons.mp h with z | z
      · exact absurd z e
      · exact z
theorem look_none {tab : Tab} : ∀ {x : Str}, x ∉ tabKeys tab → look tab x = [] := by
  induction tab with
  | nil => intro x _; rfl
  | cons p r ih =>
    intro x h
    obtain ⟨y, as⟩ := p
    have h1 : x ≠ y := fun z => h (z ▸ List.mem_cons_self ..)
    have h2 := ih (x := x) fun z => h (List.mem_cons_of_mem _ z)
    unfold look at h2 ⊢
    rw [List.lookup_cons, beq_eq_false_iff_ne.mpr h1]
    exact h2
theorem look_sub {tab : Tab} (ok : TabOk tab) {x a : Str} (h : a ∈ look tab x) : a ∈ tabKeys tab := by
  by_cases hx : x ∈ tabKeys tab
  · exact (ok _ _ (mem_look hx)).2 a h
  · rw [look_none hx] at h
    cases h
theorem nodup_le {L F : List Str} (h : L.Nodup) (s : ∀ x ∈ L, x ∈ F) : L.length ≤ F.length := by
  have := filter_left F h
  have e : L.filter (fun y => decide (y ∉ F)) = [] := List.filter_eq_nil_iff.mpr fun y hy => by simpa using s y hy
  rw [e] at this
  have z : ([] : List Str).length = 0 := rfl
  omega
theorem TabOk.snoc {tab : Tab} (ok : TabOk tab) (n : Str) (ss : List Str) : TabOk (tab ++ [(n, ancOf tab n ss)]) := by
  intro x as h
  have ek : tabKeys (tab ++ [(n, ancOf tab n ss)]) = tabKeys tab ++ [n] := by
    unfold tabKeys
    rw [List.map_append]
    rfl
  rw [ek]
  rcases List.mem_append.mp h with z | z
  · obtain ⟨h1, h2⟩ := ok x as z
    exact ⟨h1, fun a ha => List.mem_append_left _ (h2 a ha)⟩
  · have := List.mem_singleton.mp z
    cases this
    refine ⟨ancOf_nodup, fun a ha => ?_⟩
    rcases mem_ancOf.mp ha with rfl | ⟨s, _, hs⟩
    · exact List.mem_append_right _ (List.mem_singleton.mpr rfl)
    · exact List.mem_append_left _ (look_sub ok hs)
theorem tabOk_nil : TabOk [] := fun x as h => by cases h
theorem ancTab_snoc (rows : List Row2) (r : Row2) : ancTab (rows ++ [r]) = ancTab rows ++ [(r.1, ancOf (ancTab rows) r.1 r.2)] := by
  unfold ancTab
  rw [List.foldl_append]
  rfl
theorem ancTab_take {rows : List Row2} {i : Nat} {r : Row2} (h : rows[i]? = some r) : ancTab (rows.take (i + 1)) = ancTab (rows.take i) ++ [(r.1, ancOf (ancTab (rows.take i)) r.1 r.2)] := by
  rw [List.take_add_one, h]
  exact ancTab_snoc ..
theorem ancTab_ok (rows : List Row2) : ∀ i, TabOk (ancTab (rows.take i))
  | 0 => tabOk_nil
  | i + 1 => by
    cases h : rows[i]? with
    | none =>
      rw [List.take_add_one, h]
      show TabOk (ancTab (rows.take i ++ []))
      rw [List.append_nil]
      exact ancTab_ok rows i
    | some r =>
      rw [ancTab_take h]
      exact (ancTab_ok rows i).snoc _ _
theorem ancTab_keys (rows : List Row2) : tabKeys (ancTab rows) = fsts rows := by
  have : ∀ (l : List Row2) (tab : Tab), tabKeys (l.foldl (fun tab r => tab ++ [(r.1, ancOf tab r.1 r.2)]) tab) = tabKeys tab ++ fsts l := by
    intro l
    induction l with
    | nil =>
      intro tab
      show tabKeys tab = tabKeys tab ++ []
      rw [List.append_nil]
    | cons r l ih =>
      intro tab
      show tabKeys (l.foldl _ (tab ++ [(r.1, ancOf tab r.1 r.2)])) = _
      rw [ih]
      unfold tabKeys fsts
      rw [List.map_append, List.append_assoc]
      rfl
  exact this rows []
/-! ### in the heap -/
def EntryAt (H : Hp) (kv : Key × V) (na : Str × List Str) : Prop := kv.1 = Sum.inr na.1 ∧ ∃ d, kv.2 = .ref d ∧ H d = some (.dK (flag na.2))
def Entries (H : Hp) : List (Key × V) → Tab → Prop := Paired (EntryAt H)
theorem Entries.mono {H H' : Hp} {kvs : List (Key × V)} {tab : Tab} (h : Entries H kvs tab) (k : ∀ d as, H d = some (.dK (flag as)) → H' d = some (.dK (flag as))) : Entries H' kvs tab :=
  Paired.mapP h fun _ _ ⟨e1, d, e2, e3⟩ => ⟨e1, d, e2, k d _ e3⟩
theorem Entries.look {H : Hp} : ∀ {kvs : List (Key × V)} {tab : Tab} {x : Str}, Entries H kvs tab → x ∈ tabKeys tab → ∃ d, valV kvs (Sum.inr x : Key) = some (.ref d) ∧ H d = some (.dK (flag (look tab x)))
  | _, _, _, .nil, h => by cases h
  | p :: _, (y, as) :: r, x, .cons ⟨e1, d, e2, e3⟩ t, h => by
    by_cases e : x = y
    · subst e
      refine ⟨d, ?_, ?_⟩
      · rw [valV_pos e1, e2]
      · unfold Kv.look
        rw [List.lookup_cons, beq_self_eq_true]
        exact e3
    · have hx : x ∈ tabKeys r := by
        rcases List.mem_cons.mp h with z | z
        · exact absurd z e
        · exact z
      obtain ⟨d2, g1, g2⟩ := Entries.look t hx
      refine ⟨d2, ?_, ?_⟩
      · rw [valV_neg (fun z => e (Sum.inr.inj (e1.symm.trans z)).symm)]
        exact g1
      · unfold Kv.look at g2 ⊢
        rw [List.lookup_cons, beq_eq_false_iff_ne.mpr e]
        exact g2
theorem Entries.none {H : Hp} : ∀ {kvs : List (Key × V)} {tab : Tab} {x : Str}, Entries H kvs tab → x ∉ tabKeys tab → valV kvs (Sum.inr x : Key) = none
  | _, _, _, .nil, _ => rfl
  | p :: _, (y, as) :: r, x, .cons ⟨e1, d, e2, e3⟩ t, h => by
    rw [valV_neg (fun z => h (by
      have : y = x := Sum.inr.inj (e1.symm.trans z)
      rw [this]
      exact List.mem_cons_self ..))]
    exact Entries.none t fun z => h (List.mem_cons_of_mem _ z)
theorem Entries.snoc {H : Hp} : ∀ {kvs : List (Key × V)} {tab : Tab} {kv : Key × V} {na : Str × List Str}, Entries H kvs tab → EntryAt H kv na → Entries H (kvs ++ [kv]) (tab ++ [na])
  | _, _, _, _, .nil, h => .cons h .nil
  | _, _, _, _, .cons a b, h => .cons a (Entries.snoc b h)
theorem Entries.length {H : Hp} {kvs : List (Key × V)} {tab : Tab} (h : Entries H kvs tab) : kvs.length = tab.length := Paired.length h
/-- the places -/
def placeKV (ns : List Str) : List (Key × V) := ns.zipIdx.map fun p => (Sum.inr p.1, V.int p.2)
theorem place_len (ns : List Str) : (placeKV ns).length = ns.length := by
  unfold placeKV
  rw [List.length_map, List.length_zipIdx]
theorem place_snoc (ns : List Str) (n : Str) : placeKV (ns ++ [n]) = placeKV ns ++ [(Sum.inr n, .int ns.length)] := by
  unfold placeKV
  rw [List.zipIdx_append, List.map_append]
  simp
theorem place_val (x : Str) : ∀ (ns : List Str), (valV (placeKV ns) (Sum.inr x : Key)).isSome = decide (x ∈ ns) := by
  intro ns
  unfold placeKV
  have : ∀ (l : List Str) (k : Nat), (valV ((l.zipIdx k).map fun p => ((Sum.inr p.1 : Key), V.int p.2)) (Sum.inr x : Key)).isSome = decide (x ∈ l) := by
    intro l
    induction l with
    | nil => intro k; rfl
    | cons y r ih =>
      intro k
      rw [List.zipIdx_cons, List.map_cons]
      by_cases e : y = x
      · subst e
        rw [valV_pos rfl, decide_eq_true (List.mem_cons_self ..)]
        rfl
      · rw [valV_neg (keyr_ne e), ih]
        by_cases h : x ∈ r
        · rw [decide_eq_true h, decide_eq_true (List.mem_cons_of_mem _ h)]
        · rw [decide_eq_false h, decide_eq_false (fun z => by
            rcases List.mem_cons.mp z with z | z
            · exact e z.symm
            · exact h z)]
  exact this ns 0
end Kv
/-! A hierarchy as an object. -/
namespace Kv
open PySem PySem.Spec PyProof.Rows L2
def flds (r q u : Addr) : List (Str × V) := putF "above" (.ref u) (putF "places" (.ref q) (putF "rows" (.ref r) []))
theorem f1 : ¬ (("rows" : Str) = "above") := by decide +kernel
theorem f2 : ¬ (("rows" : Str) = "places") := by decide +kernel
theorem f3 : ¬ (("places" : Str) = "above") := by decide +kernel
theorem flds_rows (r q u : Addr) : (flds r q u).lookup ("rows" : Str) = some (.ref r) := by
  unfold flds
  rw [lookup_putF, if_neg f1, lookup_putF, if_neg f2, lookup_putF, if_pos rfl]
theorem flds_places (r q u : Addr) : (flds r q u).lookup ("places" : Str) = some (.ref q) := by
  unfold flds
  rw [lookup_putF, if_neg f3, lookup_putF, if_pos rfl]
theorem flds_above (r q u : Addr) : (flds r q u).lookup ("above" : Str) = some (.ref u) := by
  unfold flds
  rw [lookup_putF, if_pos rfl]
theorem flds_no (r q u : Addr) {m : Str} (h1 : ¬ m = "above") (h2 : ¬ m = "places") (h3 : ¬ m = "rows") : (flds r q u).lookup m = none := by
  unfold flds
  rw [lookup_putF, if_neg h1, lookup_putF, if_neg h2, lookup_putF, if_neg h3]
  rfl
theorem two_flds (r q : Addr) : (putF "places" (V.ref q) (putF "rows" (V.ref r) [])).length < 1000 := by
  show (if ("rows" : Str) = "places" then [(("rows" : Str), V.ref q)] else (("rows" : Str), V.ref r) :: putF "places" (V.ref q) []).length < 1000
  rw [if_neg f2]
  show 2 < 1000
  decide
/-- the hierarchy of these rows stands at x -/
structure HierAt (C : Addr) (H : Hp) (x : Addr) (rows : List Row2) : Prop where
  ex : ∃ (dx r q u : Addr) (rvs : List V) (kvs : List (Key × V)), H x = some (.ins C dx (flds r q u)) ∧ H r = some (.lst rvs) ∧ RowsAre H rvs rows ∧
    H q = some (.dK (placeKV (fsts rows))) ∧ H u = some (.dK kvs) ∧ Entries H kvs (ancTab rows)
theorem HierAt.same {C : Addr} {H H' : Hp} {x : Addr} {rows : List Row2} (h : HierAt C H x rows) (s : Same H H') : HierAt C H' x rows := by
  obtain ⟨dx, r, q, u, rvs, kvs, h1, h2, h3, h4, h5, h6⟩ := h.ex
  exact ⟨dx, r, q, u, rvs, kvs, s _ _ h1, s _ _ h2, h3.same s, s _ _ h4, s _ _ h5, h6.mono fun d as e => s _ _ e⟩
theorem RowAt.wrX {H : Hp} {R : Addr} {o0 o : HO} (h : H R = some o0) (hn : ∀ xs, HO.tup xs ≠ o0) {v : V} {r : Row2} (a : RowAt H v r) : RowAt (upd H R o) v r := by
  obtain ⟨t, u, e, h1, h2⟩ := a
  exact ⟨t, u, e, by rw [upd_ne (ne_of h1 h (hn _))]; exact h1, by rw [upd_ne (ne_of h2 h (hn _))]; exact h2⟩
theorem RowsAre.wrX {H : Hp} {R : Addr} {o0 o : HO} (h : H R = some o0) (hn : ∀ xs, HO.tup xs ≠ o0) {vs : List V} {rows : List Row2} (a : RowsAre H vs rows) : RowsAre (upd H R o) vs rows :=
  Paired.mapP a fun _ _ z => z.wrX h hn
theorem RowAt.butX {H H' : Hp} {x : Addr} {o0 : HO} (h : H x = some o0) (hn : ∀ xs, HO.tup xs ≠ o0) (b : But x H H') {v : V} {r : Row2} (a : RowAt H v r) : RowAt H' v r := by
  obtain ⟨t, u, e, h1, h2⟩ := a
  exact ⟨t, u, e, b _ _ (ne_of h1 h (hn _)) h1, b _ _ (ne_of h2 h (hn _)) h2⟩
theorem Entries.wr {H : Hp} {R : Addr} {o : HO} : ∀ {kvs : List (Key × V)} {tab : Tab}, Entries H kvs tab → (∀ kv ∈ kvs, kv.2 ≠ .ref R) → Entries (upd H R o) kvs tab
  | _, _, .nil, _ => .nil
  | p :: r, _, .cons ⟨e1, d, e2, e3⟩ t, h => by
    have hd : d ≠ R := fun z => h p (List.mem_cons_self ..) (by rw [e2, z])
    exact .cons ⟨e1, d, e2, by rw [upd_ne hd]; exact e3⟩ (Entries.wr t fun kv hk => h kv (List.mem_cons_of_mem _ hk))
theorem tyL {K : PySem.W.Frag} {H : Hp} {a : Addr} {xs : List V} (h : SqL K H a xs) : TyX K H (.ref a) (.type "list") := by
  rcases h with (h | ⟨o, h⟩) | ⟨o, its, n, hk, hc, _⟩
  · exact .base (.lst h)
  · exact .base (.frz h)
  · exact .kList hk hc
theorem tyT {K : PySem.W.Frag} {H : Hp} {a : Addr} {xs : List V} (h : SqT K H a xs) : TyX K H (.ref a) (.type "tuple") := by
  rcases h with (h | ⟨o, h⟩) | ⟨o, its, n, hk, hc, _⟩
  · exact .base (.tup h)
  · exact .fTuple h
  · exact .kTuple hk hc
theorem sqL_but {K : PySem.W.Frag} {H H' : Hp} {x c : Addr} {us : List V} {C dx : Addr} {fs : List (Str × V)} (h : SqL K H c us) (hx : H x = some (.ins C dx fs)) (b : But x H H') : SqL K H' c us := by
  rcases h with (h | ⟨o, h⟩) | h
  · exact .inl (.inl (b _ _ (ne_of h hx (by intro z; cases z)) h))
  · exact .inl (.inr ⟨o, b _ _ (ne_of h hx (by intro z; cases z)) h⟩)
  · exact .inr h
theorem sqT_but {K : PySem.W.Frag} {H H' : Hp} {x c : Addr} {us : List V} {C dx : Addr} {fs : List (Str × V)} (h : SqT K H c us) (hx : H x = some (.ins C dx fs)) (b : But x H H') : SqT K H' c us := by
  rcases h with (h | ⟨o, h⟩) | h
  · exact .inl (.inl (b _ _ (ne_of h hx (by intro z; cases z)) h))
  · exact .inl (.inr ⟨o, b _ _ (ne_of h hx (by intro z; cases z)) h⟩)
  · exact .inr h
theorem sqT_same {K : PySem.W.Frag} {H H' : Hp} {c : Addr} {us : List V} (h : SqT K H c us) (s : Same H H') : SqT K H' c us := by
  rcases h with (h | ⟨o, h⟩) | h
  · exact .inl (.inl (s _ _ h))
  · exact .inl (.inr ⟨o, s _ _ h⟩)
  · exact .inr h
/-- enumerate over a tuple, as a walk -/
theorem walk_enumT {K : PySem.W.Frag} {a : Addr} {xs : List V} : Walk (Itet K a) xs.length (fun H => SqT K H a xs) (YPair (fun i => some (.int (i : Nat))) (fun i => xs[i]?)) := by
  refine ⟨fun i H hi q => ⟨xs, xs[i], q, by simp [hi]⟩, fun H q => ⟨xs, q, rfl⟩, fun i H v H2 hi q y => ?_⟩
  obtain ⟨T, x, e1, e2, e3, e4⟩ := y
  exact ⟨T, .int (i : Nat), x, e1, e2, e3, rfl, e4 xs q⟩
/-- what the walk asks of the class Hierarchy -/
structure HTxt (K : PySem.W.Frag) (mg : Str → Option Value) (C : Addr) : Prop where
  cl : Cls K C
  nR : NoAttr K C "rows"
  nP : NoAttr K C "places"
  nA : NoAttr K C "above"
  mgC : mg "Hierarchy" = some (.ref C)
  lim : ∃ mc u, ClX.CRead K C mc ∧ ClX.CVal K C mc "LIMIT" (.int 20) u
end Kv
/-! New lists do not lie where sys.modules lies. -/
namespace Kv
open PySem PySem.Spec PyProof.Rows L2
section
variable {X : Cx} {es : List Expr} {t : TA} {pos : Pos}
theorem new_low {pins : List (Addr × Obj)} {σ : L2.St} {H : Hp} {s : Shared} (low : sysModules < X.base.objs.size) (I : Inv X pins σ H s) : s.heap.objs.size ≠ sysModules := by
  have := I.ok.bsz
  have := I.sz
  intro z
  rw [z] at this
  exact absurd (Nat.lt_of_lt_of_le low (Nat.le_trans ‹X.base.objs.size ≤ _› this)) (Nat.lt_irrefl _)
/-- a list of written items, its place told apart -/
def tLstN (t : TA) : TE := fun σ H Q => t σ H fun xs H1 => xs.length ≤ sizeLine ∧ ∀ p, H1 p = none → p ≠ sysModules → Q (.ref p) (upd H1 p (.lst xs))
theorem pe_lstN (low : sysModules < X.base.objs.size) (h : PA X es t) : PE X (.List es pos) (tLstN t) := by
  constructor
  intro pins s σ H Q I hq
  refine wpAny_List_spliced (thn (h.run pos pins s σ H _ I hq) ?_)
  rintro us s1 ⟨xs, H1, I1, r, z, q⟩
  refine ⟨by rw [← r.length]; exact z, ?_⟩
  have hf : H1 s1.heap.objs.size = none := I1.hok.fresh (Nat.le_refl _)
  have ok : ObjOk X.prog X.w (upd H1 s1.heap.objs.size (.lst xs)) (s1.heap.push { cls := .type "list", data := .seq us.toArray }) s1.heap.objs.size (.lst xs) :=
    ⟨z, us, 0, r, Heap.get?_push_size _ rfl⟩
  exact ⟨.ref s1.heap.objs.size, _, I1.laid (t' := s1.toks) (fun b u e => Heap.get?_push_of_some _ e) (Nat.le_refl _) ok, rfl, q _ hf (new_low low I1)⟩
def rListN (K : PySem.W.Frag) : List V → Hp → VK → Prop := fun xs H Q => ∃ p ys, xs = [.ref p] ∧ SqL K H p ys ∧
  ∀ l, H l = none → l ≠ sysModules → Q (.ref l) (upd H l (.lst ys))
theorem call_listN (low : sysModules < X.base.objs.size) : CallR X (.type "list") (rListN X.K) := by
  intro pins s σ H xs us Q I r h
  obtain ⟨p, ys, rfl, hq, q⟩ := h
  obtain ⟨u, rfl, rx⟩ := vals1 r
  cases rx
  obtain ⟨its, rv, pl, hz⟩ := I.list hq
  have hlen := rv.length
  obtain ⟨o, ho, hc, n, hd⟩ := pl.isList
  refine call_list_seq p (.inl rfl) ho hc hd ?_ (by simp only [List.size_toArray]; omega)
  intro h2 c2 kp e
  have ok : ObjOk X.prog X.w (upd H s.heap.objs.size (.lst ys)) h2 s.heap.objs.size (.lst ys) := ⟨hz, its, c2, rv, e⟩
  exact ⟨.ref s.heap.objs.size, _, I.laid (t' := s.toks) kp (Nat.le_refl _) ok, rfl, q _ (I.hok.fresh (Nat.le_refl _)) (new_low low I)⟩
end
/-- a value that can be shown, dicts and lists in it -/
def GoodN (n m : Nat) (K : PySem.W.Frag) (H : Hp) (v : V) : Prop := ∃ d : PyData, Sh K false H v d ∧ Fit n m d
theorem GoodN.same {n m : Nat} {K : PySem.W.Frag} {H H' : Hp} {v : V} (g : GoodN n m K H v) (s : Same H H') : GoodN n m K H' v := by
  obtain ⟨d, h, r⟩ := g
  exact ⟨d, h.same s, r⟩
mutual
/-- the value v is the datum d, all in the heap; its lists lie where ok tells -/
inductive ShO (ok : Addr → Prop) (H : Hp) : V → PyData → Prop
  | non : ShO ok H .non .none
  | bl (b : Bool) : ShO ok H (.bl b) (.bool b)
  | int (i : Int) : ShO ok H (.int i) (.int i)
  | str (x : Str) : ShO ok H (.str x) (.str x)
  | lst {a : Addr} {xs : List V} {ds : List PyData} : H a = some (.lst xs) → ok a → ShOs ok H xs ds → ShO ok H (.ref a) (.list ds)
  | tup {a : Addr} {xs : List V} {ds : List PyData} : H a = some (.tup xs) → ShOs ok H xs ds → ShO ok H (.ref a) (.tuple ds)
  | dict {a : Addr} {kvs : List (Key × V)} {ks vs : List PyData} : H a = some (.dK kvs) → ShOs ok H (kvs.map fun p => kV p.1) ks →
      ShOs ok H (kvs.map fun p => p.2) vs → ShO ok H (.ref a) (.dict (ks.zip vs))
inductive ShOs (ok : Addr → Prop) (H : Hp) : List V → List PyData → Prop
  | nil : ShOs ok H [] []
  | cons {v : V} {vs : List V} {d : PyData} {ds : List PyData} : ShO ok H v d → ShOs ok H vs ds → ShOs ok H (v :: vs) (d :: ds)
end
mutual
theorem ShO.keep {ok : Addr → Prop} {H H' : Hp} (kL : ∀ a xs, ok a → H a = some (.lst xs) → H' a = some (.lst xs)) (kT : ∀ a xs, H a = some (.tup xs) → H' a = some (.tup xs))
    (kD : ∀ a xs, H a = some (.dK xs) → H' a = some (.dK xs)) : ∀ {v : V} {d : PyData}, ShO ok H v d → ShO ok H' v d
  | _, _, .non => .non
  | _, _, .bl b => .bl b
  | _, _, .int i => .int i
  | _, _, .str x => .str x
  | _, _, .lst h1 h2 h3 => .lst (kL _ _ h2 h1) h2 (ShOs.keep kL kT kD h3)
  | _, _, .tup h1 h3 => .tup (kT _ _ h1) (ShOs.keep kL kT kD h3)
  | _, _, .dict h1 h2 h3 => .dict (kD _ _ h1) (ShOs.keep kL kT kD h2) (ShOs.keep kL kT kD h3)
theorem ShOs.keep {ok : Addr → Prop} {H H' : Hp} (kL : ∀ a xs, ok a → H a = some (.lst xs) → H' a = some (.lst xs)) (kT : ∀ a xs, H a = some (.tup xs) → H' a = some (.tup xs))
    (kD : ∀ a xs, H a = some (.dK xs) → H' a = some (.dK xs)) : ∀ {vs : List V} {ds : List PyData}, ShOs ok H vs ds → ShOs ok H' vs ds
  | _, _, .nil => .nil
  | _, _, .cons h1 h2 => .cons (ShO.keep kL kT kD h1) (ShOs.keep kL kT kD h2)
end
theorem ShO.same {ok : Addr → Prop} {H H' : Hp} (s : Same H H') {v : V} {d : PyData} (h : ShO ok H v d) : ShO ok H' v d :=
  h.keep (fun _ _ _ e => s _ _ e) (fun _ _ e => s _ _ e) (fun _ _ e => s _ _ e)
theorem ShO.but {ok : Addr → Prop} {H H' : Hp} {p : Addr} {zs : List V} (hok : ∀ a, ok a → a ≠ p) (hp : H p = some (.lst zs)) (b : But p H H') {v : V} {d : PyData} (h : ShO ok H v d) : ShO ok H' v d :=
  h.keep (fun _ _ o e => b _ _ (hok _ o) e) (fun _ _ e => b _ _ (ne_of e hp (by intro z; cases z)) e) (fun _ _ e => b _ _ (ne_of e hp (by intro z; cases z)) e)
theorem ShOs.same {ok : Addr → Prop} {H H' : Hp} (s : Same H H') {v : List V} {d : List PyData} (h : ShOs ok H v d) : ShOs ok H' v d :=
  h.keep (fun _ _ _ e => s _ _ e) (fun _ _ e => s _ _ e) (fun _ _ e => s _ _ e)
theorem ShOs.but {ok : Addr → Prop} {H H' : Hp} {p : Addr} {zs : List V} (hok : ∀ a, ok a → a ≠ p) (hp : H p = some (.lst zs)) (b : But p H H') {v : List V} {d : List PyData} (h : ShOs ok H v d) : ShOs ok H' v d :=
  h.keep (fun _ _ o e => b _ _ (hok _ o) e) (fun _ _ e => b _ _ (ne_of e hp (by intro z; cases z)) e) (fun _ _ e => b _ _ (ne_of e hp (by intro z; cases z)) e)
theorem ShOs.snoc {ok : Addr → Prop} {H : Hp} : ∀ {vs : List V} {ds : List PyData} {v : V} {d : PyData}, ShOs ok H vs ds → ShO ok H v d → ShOs ok H (vs ++ [v]) (ds ++ [d])
  | _, _, _, _, .nil, h => .cons h .nil
  | _, _, _, _, .cons a b, h => .cons a (ShOs.snoc b h)
theorem ShOs.length {ok : Addr → Prop} {H : Hp} : ∀ {vs : List V} {ds : List PyData}, ShOs ok H vs ds → vs.length = ds.length
  | _, _, .nil => rfl
  | _, _, .cons _ t => by rw [List.length_cons, List.length_cons, t.length]
mutual
theorem ShO.sh {K : PySem.W.Frag} {ok : Addr → Prop} {H : Hp} (hok : ∀ a, ok a → a ≠ sysModules) : ∀ {v : V} {d : PyData}, ShO ok H v d → Sh K false H v d
  | _, _, .non => .non
  | _, _, .bl b => .bl b
  | _, _, .int i => .int i
  | _, _, .str x => .str x
  | _, _, .lst h1 h2 h3 => .lst (.inl (.inl h1)) (fun _ => hok _ h2) (ShOs.sh hok h3)
  | _, _, .tup h1 h3 => .tup (.inl (.inl h1)) (ShOs.sh hok h3)
  | _, _, .dict h1 h2 h3 => .dict rfl h1 (ShOs.sh hok h2) (ShOs.sh hok h3)
theorem ShOs.sh {K : PySem.W.Frag} {ok : Addr → Prop} {H : Hp} (hok : ∀ a, ok a → a ≠ sysModules) : ∀ {vs : List V} {ds : List PyData}, ShOs ok H vs ds → ShAll K false H vs ds
  | _, _, .nil => .nil
  | _, _, .cons h1 h2 => .cons (ShO.sh hok h1) (ShOs.sh hok h2)
end
/-- a hierarchy stays while a pot is drawn from -/
theorem HierAt.but {C : Addr} {H H' : Hp} {p x : Addr} {rows : List Row2} (hp : PotAt H p) (b : But p H H') (h : HierAt C H x rows) : HierAt C H' x rows := by
  obtain ⟨dx, r, q, u, rvs, kvs, h1, h2, h3, h4, h5, h6⟩ := h.ex
  obtain ⟨r0, g0, ep, _⟩ := id hp
  have nr : r ≠ p := by
    intro z
    rw [z, ep] at h2
    cases Option.some.inj h2
    cases h3 with
    | cons a _ =>
      obtain ⟨_, _, e, _⟩ := a
      cases e
  exact ⟨dx, r, q, u, rvs, kvs, b _ _ (ne_of h1 ep (by intro z; cases z)) h1, b _ _ nr h2, h3.but hp b, b _ _ (ne_of h4 ep (by intro z; cases z)) h4,
    b _ _ (ne_of h5 ep (by intro z; cases z)) h5, h6.mono fun d as e => b _ _ (ne_of e ep (by intro z; cases z)) e⟩
/-- where the lists of a drawn value lie -/
def Apart (p : Addr) : Addr → Prop := fun a => a ≠ p ∧ a ≠ sysModules
/-- a drawn value -/
def Drawn (n m : Nat) (p : Addr) (H : Hp) (v : V) : Prop := ∃ d : PyData, ShO (Apart p) H v d ∧ Fit n m d
theorem Drawn.same {n m : Nat} {p : Addr} {H H' : Hp} {v : V} (g : Drawn n m p H v) (s : Same H H') : Drawn n m p H' v := by
  obtain ⟨d, h, r⟩ := g
  exact ⟨d, h.same s, r⟩
theorem Drawn.but {n m : Nat} {p : Addr} {H H' : Hp} {v : V} (hp : PotAt H p) (b : But p H H') (g : Drawn n m p H v) : Drawn n m p H' v := by
  obtain ⟨d, h, r⟩ := g
  obtain ⟨r1, g1, e, _⟩ := hp
  exact ⟨d, h.but (fun _ z => z.1) e b, r⟩
theorem Drawn.mono {n m n' m' : Nat} {p : Addr} {H : Hp} {v : V} (g : Drawn n m p H v) (a : n ≤ n') (b : m ≤ m') : Drawn n' m' p H v := by
  obtain ⟨d, h, r⟩ := g
  exact ⟨d, h, r.mono a b⟩
theorem Drawn.good {n m : Nat} {K : PySem.W.Frag} {p : Addr} {H : Hp} {v : V} (g : Drawn n m p H v) : GoodN n m K H v := by
  obtain ⟨d, h, r⟩ := g
  exact ⟨d, h.sh (fun _ z => z.2), r⟩
theorem Drawn.non {n m : Nat} {p : Addr} {H : Hp} : Drawn n m p H .non := ⟨_, .non, fit_non.mono (Nat.zero_le _) (Nat.zero_le _)⟩
theorem Drawn.bl {n m : Nat} {p : Addr} {H : Hp} {b : Bool} : Drawn n m p H (.bl b) := ⟨_, .bl b, fit_bl.mono (Nat.zero_le _) (Nat.zero_le _)⟩
theorem Drawn.int {n m : Nat} {p : Addr} {H : Hp} {i : Int} (h : i.natAbs ≤ 10 ^ 60) (hn : 200 ≤ n := by decide) : Drawn n m p H (.int i) := ⟨_, .int i, (fit_int h).mono hn (Nat.zero_le _)⟩
theorem Drawn.str {n m k : Nat} {p : Addr} {H : Hp} {x : Str} (h : Sm k x) (hn : k ≤ n := by decide) : Drawn n m p H (.str x) := ⟨_, .str x, h.fit.mono hn (Nat.zero_le _)⟩
end Kv
/-! Values as trees; which lists and dicts are still written; what a frame's names hold. -/
namespace Pu
open PySem PySem.Spec PyProof.Rows L2 Kv
/-- a value as a tree -/
inductive D where
  | non
  | bl (b : Bool)
  | int (i : Int)
  | str (x : Str)
  | lst (xs : List D)
  | tup (xs : List D)
  | flst (xs : List D)
  | ftup (xs : List D)
  | dic (ks : List Key) (vs : List D)
  | dct (ks : List (List Key)) (vs : List D)
  | obj (C : Addr) (ns : List Str) (vs : List D)
  | exn (a dx : Addr) (c : Value) (ns : List Str) (vs : List D)
  | opq (a : Addr)
  | typ (n : String)
/-- a list that nobody writes any more: locked, or written in the text -/
def FzL (K : PySem.W.Frag) (H : Hp) (a : Addr) (xs : List V) : Prop :=
  (∃ o, H a = some (.frz o (.lst xs))) ∨
    ∃ (o : Obj) (its : Array Value) (n : Nat), K.lookup a = some o ∧ o.cls = .type "list" ∧ o.dict = none ∧ o.data = .seq its n ∧ its.size ≤ sizeLine ∧ Vals xs its.toList
/-- a tuple that is locked or written in the text -/
def FzT (K : PySem.W.Frag) (H : Hp) (a : Addr) (xs : List V) : Prop :=
  (∃ o, H a = some (.frz o (.tup xs))) ∨
    ∃ (o : Obj) (its : Array Value) (n : Nat), K.lookup a = some o ∧ o.cls = .type "tuple" ∧ o.data = .seq its n ∧ its.size ≤ sizeLine ∧ Vals xs its.toList
theorem FzT.sq {K : PySem.W.Frag} {H : Hp} {a : Addr} {xs : List V} (h : FzT K H a xs) : SqT K H a xs := by
  rcases h with h | h
  · exact .inl (.inr h)
  · exact .inr h
theorem FzL.sq {K : PySem.W.Frag} {H : Hp} {a : Addr} {xs : List V} (h : FzL K H a xs) : SqL K H a xs := by
  rcases h with h | h
  · exact .inl (.inr h)
  · exact .inr h
/-- read, and not written any more: where ok tells, or locked -/
def RdO (ok : Addr → Prop) (H : Hp) (a : Addr) (u : HO) : Prop := (H a = some u ∧ ok a) ∨ ∃ o, H a = some (.frz o u)
theorem RdO.rd {ok : Addr → Prop} {H : Hp} {a : Addr} {u : HO} (h : RdO ok H a u) : Rd H a u := h.imp (·.1) id
mutual
/-- the value v is the tree d; the lists and dicts in it lie where ok tells -/
inductive Rep (K : PySem.W.Frag) (ok : Addr → Prop) (H : Hp) : V → D → Prop
  | non : Rep K ok H .non .non
  | bl (b : Bool) : Rep K ok H (.bl b) (.bl b)
  | int (i : Int) : Rep K ok H (.int i) (.int i)
  | str (x : Str) : Rep K ok H (.str x) (.str x)
  | lst {a : Addr} {vs : List V} {ds : List D} : H a = some (.lst vs) → ok a → Reps K ok H vs ds → Rep K ok H (.ref a) (.lst ds)
  | lstF {a : Addr} {vs : List V} {ds : List D} : FzL K H a vs → Reps K ok H vs ds → Rep K ok H (.ref a) (.flst ds)
  | tup {a : Addr} {vs : List V} {ds : List D} : H a = some (.tup vs) → Reps K ok H vs ds → Rep K ok H (.ref a) (.tup ds)
  | tupF {a : Addr} {vs : List V} {ds : List D} : FzT K H a vs → Reps K ok H vs ds → Rep K ok H (.ref a) (.ftup ds)
  | dic {a : Addr} {kvs : List (Key × V)} {ds : List D} : RdO ok H a (.dK kvs) → Reps K ok H (kvs.map (·.2)) ds → Rep K ok H (.ref a) (.dic (kvs.map (·.1)) ds)
  | dct {a : Addr} {kvs : List (List Key × V)} {ds : List D} : RdO ok H a (.dT kvs) → Reps K ok H (kvs.map (·.2)) ds → Rep K ok H (.ref a) (.dct (kvs.map (·.1)) ds)
  | obj {a C dx : Addr} {fs : List (Str × V)} {ds : List D} : H a = some (.ins C dx fs) → Reps K ok H (fs.map (·.2)) ds → Rep K ok H (.ref a) (.obj C (fs.map (·.1)) ds)
  | exn {a dx : Addr} {c : Value} {fs : List (Str × V)} {ds : List D} : H dx = some (.xd fs) → Reps K ok H (fs.map (·.2)) ds → Rep K ok H (.ref a) (.exn a dx c (fs.map (·.1)) ds)
  | opq (a : Addr) : Rep K ok H (.ref a) (.opq a)
  | typ (n : String) : Rep K ok H (.ty n) (.typ n)
inductive Reps (K : PySem.W.Frag) (ok : Addr → Prop) (H : Hp) : List V → List D → Prop
  | nil : Reps K ok H [] []
  | cons {v : V} {vs : List V} {d : D} {ds : List D} : Rep K ok H v d → Reps K ok H vs ds → Reps K ok H (v :: vs) (d :: ds)
end
/-- what may be written -/
def Vol : HO → Prop
  | .lst _ => True
  | .dK _ => True
  | .dT _ => True
  | _ => False
/-- a dict may be locked meanwhile -/
def isDct : HO → Bool
  | .dK _ => true
  | .dT _ => true
  | _ => false
/-- as it was, or locked -/
def Kept (H' : Hp) (a : Addr) (o : HO) : Prop := H' a = some o ∨ (isDct o = true ∧ ∃ ob, H' a = some (.frz ob o))
theorem Kept.there {H' : Hp} {a : Addr} {o : HO} (k : Kept H' a o) : ∃ o', H' a = some o' := by
  rcases k with h | ⟨_, ob, h⟩
  · exact ⟨_, h⟩
  · exact ⟨_, h⟩
theorem Kept.same {H' : Hp} {a : Addr} {o : HO} (k : Kept H' a o) (n : isDct o = false) : H' a = some o := by
  rcases k with h | ⟨z, _⟩
  · exact h
  · rw [n] at z; cases z
theorem Kept.then {H1 H2 : Hp} {a : Addr} {o : HO} (k : Kept H1 a o) (f : ∀ o', H1 a = some o' → Kept H2 a o') : Kept H2 a o := by
  rcases k with h | ⟨z, ob, h⟩
  · exact f _ h
  · exact .inr ⟨z, ob, (f _ h).same rfl⟩
/-- what stands, stands on -/
structure Fr (ok : Addr → Prop) (H : Hp) (ok' : Addr → Prop) (H' : Hp) : Prop where
  keep : ∀ a o, H a = some o → (Vol o → ok a) → Kept H' a o
  mono : ∀ a o, H a = some o → ok a → ok' a
  all : ∀ a, H' a = none → H a = none
theorem Fr.of {ok : Addr → Prop} {H : Hp} {ok' : Addr → Prop} {H' : Hp} (k : ∀ a o, H a = some o → (Vol o → ok a) → H' a = some o) (m : ∀ a o, H a = some o → ok a → ok' a) (l : ∀ a, H' a = none → H a = none) : Fr ok H ok' H' := ⟨fun a o h v => .inl (k a o h v), m, l⟩
theorem Fr.refl {ok : Addr → Prop} {H : Hp} : Fr ok H ok H := .of (fun _ _ h _ => h) (fun _ _ _ h => h) (fun _ h => h)
theorem Fr.mono' {ok ok1 : Addr → Prop} {H H1 : Hp} (a : Fr ok H ok1 H1) {c : Addr} {o : HO} (h : H c = some o) (k : ok c) : ∃ o', H1 c = some o' ∧ ok1 c := by
  obtain ⟨o', h'⟩ := (a.keep c o h fun _ => k).there
  exact ⟨o', h', a.mono c o h k⟩
theorem Fr.trans {ok ok1 ok2 : Addr → Prop} {H H1 H2 : Hp} (a : Fr ok H ok1 H1) (b : Fr ok1 H1 ok2 H2) : Fr ok H ok2 H2 :=
  ⟨fun c o h v => (a.keep c o h v).then fun o' h' => b.keep c o' h' fun z => by
      rcases a.keep c o h v with k | ⟨_, ob, k⟩
      · rw [k] at h'; cases h'; exact a.mono c o h (v z)
      · rw [k] at h'; cases h'; exact z.elim, fun c o h k => by
    obtain ⟨o', h', k'⟩ := a.mono' h k
    exact b.mono c o' h' k', fun c h => a.all c (b.all c h)⟩
theorem Fr.rd {ok ok' : Addr → Prop} {H H' : Hp} (f : Fr ok H ok' H') {a : Addr} {o : HO} (h : H a = some o) (n : ¬ Vol o) : H' a = some o := (f.keep a o h fun z => absurd z n).same (by
  cases o <;> first | rfl | exact absurd trivial n)
theorem Fr.rdO {ok ok' : Addr → Prop} {H H' : Hp} (f : Fr ok H ok' H') {a : Addr} {u : HO} (h : RdO ok H a u) : RdO ok' H' a u := by
  rcases h with ⟨h, k⟩ | ⟨o, h⟩
  · rcases f.keep a u h fun _ => k with z | ⟨_, ob, z⟩
    · exact .inl ⟨z, f.mono a u h k⟩
    · exact .inr ⟨ob, z⟩
  · exact .inr ⟨o, f.rd h (fun z => z)⟩
theorem Fr.fzT {K : PySem.W.Frag} {ok ok' : Addr → Prop} {H H' : Hp} (f : Fr ok H ok' H') {a : Addr} {xs : List V} (h : FzT K H a xs) : FzT K H' a xs := by
  rcases h with ⟨o, h⟩ | h
  · exact .inl ⟨o, f.rd h (fun z => z)⟩
  · exact .inr h
theorem Fr.fzL {K : PySem.W.Frag} {ok ok' : Addr → Prop} {H H' : Hp} (f : Fr ok H ok' H') {a : Addr} {xs : List V} (h : FzL K H a xs) : FzL K H' a xs := by
  rcases h with ⟨o, h⟩ | h
  · exact .inl ⟨o, f.rd h (fun z => z)⟩
  · exact .inr h
mutual
theorem Rep.fr {K : PySem.W.Frag} {ok ok' : Addr → Prop} {H H' : Hp} (f : Fr ok H ok' H') : ∀ {v : V} {d : D}, Rep K ok H v d → Rep K ok' H' v d
  | _, _, .non => .non
  | _, _, .bl b => .bl b
  | _, _, .int i => .int i
  | _, _, .str x => .str x
  | _, _, .lst h k r => .lst ((f.keep _ _ h fun _ => k).same rfl) (f.mono _ _ h k) (Reps.fr f r)
  | _, _, .lstF h r => .lstF (f.fzL h) (Reps.fr f r)
  | _, _, .tup h r => .tup (f.rd h (fun z => z)) (Reps.fr f r)
  | _, _, .tupF h r => .tupF (f.fzT h) (Reps.fr f r)
  | _, _, .dic h r => .dic (f.rdO h) (Reps.fr f r)
  | _, _, .dct h r => .dct (f.rdO h) (Reps.fr f r)
  | _, _, .obj h r => .obj (f.rd h (fun z => z)) (Reps.fr f r)
  | _, _, .exn h r => .exn (f.rd h (fun z => z)) (Reps.fr f r)
  | _, _, .opq v => .opq v
  | _, _, .typ v => .typ v
theorem Reps.fr {K : PySem.W.Frag} {ok ok' : Addr → Prop} {H H' : Hp} (f : Fr ok H ok' H') : ∀ {vs : List V} {ds : List D}, Reps K ok H vs ds → Reps K ok' H' vs ds
  | _, _, .nil => .nil
  | _, _, .cons h t => .cons (Rep.fr f h) (Reps.fr f t)
end
section
variable {K : PySem.W.Frag} {ok : Addr → Prop} {H : Hp}
theorem Reps.length : ∀ {vs : List V} {ds : List D}, Reps K ok H vs ds → vs.length = ds.length
  | _, _, .nil => rfl
  | _, _, .cons _ t => congrArg (· + 1) (Reps.length t)
theorem Reps.get : ∀ {vs : List V} {ds : List D} {i : Nat} {v : V}, Reps K ok H vs ds → vs[i]? = some v → ∃ d, ds[i]? = some d ∧ Rep K ok H v d
  | _, _, _, _, .nil, e => by simp at e
  | _, _, 0, _, .cons a _, e => by
    simp at e
    subst e
    exact ⟨_, rfl, a⟩
  | _, _, i + 1, v, .cons _ b, e => by
    obtain ⟨r, h1, h2⟩ := Reps.get (i := i) (v := v) b (by simpa using e)
    exact ⟨r, by simpa using h1, h2⟩
theorem Reps.getD : ∀ {vs : List V} {ds : List D} {i : Nat} {d : D}, Reps K ok H vs ds → ds[i]? = some d → ∃ v, vs[i]? = some v ∧ Rep K ok H v d
  | _, _, _, _, .nil, e => by simp at e
  | _, _, 0, _, .cons a _, e => by
    simp at e
    subst e
    exact ⟨_, rfl, a⟩
  | _, _, i + 1, v, .cons _ b, e => by
    obtain ⟨r, h1, h2⟩ := Reps.getD (i := i) (d := v) b (by simpa using e)
    exact ⟨r, by simpa using h1, h2⟩
theorem Reps.app : ∀ {vs ws : List V} {ds es : List D}, Reps K ok H vs ds → Reps K ok H ws es → Reps K ok H (vs ++ ws) (ds ++ es)
  | _, _, _, _, .nil, h => h
  | _, _, _, _, .cons a t, h => .cons a (Reps.app t h)
theorem Reps.take : ∀ {vs : List V} {ds : List D} (n : Nat), Reps K ok H vs ds → Reps K ok H (vs.take n) (ds.take n)
  | _, _, 0, _ => by rw [List.take_zero, List.take_zero]; exact .nil
  | _, _, _ + 1, .nil => .nil
  | _, _, n + 1, .cons a t => .cons a (Reps.take n t)
theorem Reps.drop : ∀ {vs : List V} {ds : List D} (n : Nat), Reps K ok H vs ds → Reps K ok H (vs.drop n) (ds.drop n)
  | _, _, 0, h => h
  | _, _, _ + 1, .nil => .nil
  | _, _, n + 1, .cons _ t => Reps.drop n t
theorem Reps.rev : ∀ {vs : List V} {ds : List D}, Reps K ok H vs ds → Reps K ok H vs.reverse ds.reverse
  | _, _, .nil => .nil
  | _, _, .cons a t => by
    rw [List.reverse_cons, List.reverse_cons]
    exact (Reps.rev t).app (.cons a .nil)
end
/-- a name's worth in the tree world: unknown; a value; a list or dict that this name alone holds and may write -/
inductive Slot where
  | un
  | val (d : D)
  | own (d : D)
abbrev En := List Slot
/-- a list or dict that is still written -/
def OwnAt (K : PySem.W.Frag) (ok : Addr → Prop) (H : Hp) (q : Addr) : D → Prop
  | .lst ds => ∃ vs, H q = some (.lst vs) ∧ Reps K ok H vs ds
  | .dic ks ds => ∃ kvs, H q = some (.dK kvs) ∧ kvs.map (·.1) = ks ∧ Reps K ok H (kvs.map (·.2)) ds
  | .dct ks ds => ∃ kvs, H q = some (.dT kvs) ∧ kvs.map (·.1) = ks ∧ Reps K ok H (kvs.map (·.2)) ds
  | _ => False
theorem OwnAt.there {K : PySem.W.Frag} {ok : Addr → Prop} {H : Hp} {q : Addr} {d : D} (h : OwnAt K ok H q d) : ∃ o, H q = some o ∧ Vol o := by
  cases d with
  | lst ds => obtain ⟨vs, e, _⟩ := h; exact ⟨_, e, trivial⟩
  | dic ks ds => obtain ⟨vs, e, _⟩ := h; exact ⟨_, e, trivial⟩
  | dct ks ds => obtain ⟨vs, e, _⟩ := h; exact ⟨_, e, trivial⟩
  | _ => exact h.elim
theorem OwnAt.fr {K : PySem.W.Frag} {ok ok' : Addr → Prop} {H H' : Hp} {q : Addr} {d : D} (f : Fr ok H ok' H') (e : H' q = H q) (h : OwnAt K ok H q d) : OwnAt K ok' H' q d := by
  cases d with
  | lst ds => obtain ⟨vs, e1, r⟩ := h; exact ⟨vs, e.trans e1, r.fr f⟩
  | dic ks ds => obtain ⟨vs, e1, k, r⟩ := h; exact ⟨vs, e.trans e1, k, r.fr f⟩
  | dct ks ds => obtain ⟨vs, e1, k, r⟩ := h; exact ⟨vs, e.trans e1, k, r.fr f⟩
  | _ => exact h.elim
/-- it is written no more -/
theorem OwnAt.rep {K : PySem.W.Frag} {ok ok' : Addr → Prop} {H : Hp} {q : Addr} {d : D} (f : Fr ok H ok' H) (k : ok' q) (h : OwnAt K ok H q d) : Rep K ok' H (.ref q) d := by
  cases d with
  | lst ds => obtain ⟨vs, e1, r⟩ := h; exact .lst e1 k (r.fr f)
  | dic ks ds => obtain ⟨vs, e1, kk, r⟩ := h; subst kk; exact .dic (.inl ⟨e1, k⟩) (r.fr f)
  | dct ks ds => obtain ⟨vs, e1, kk, r⟩ := h; subst kk; exact .dct (.inl ⟨e1, k⟩) (r.fr f)
  | _ => exact h.elim
/-- the heap at the entry; the parameters that are lent by the caller -/
structure Gx where
  H0 : Hp
  B : List Nat
structure Wf (K : PySem.W.Frag) (g : Gx) (ok : Addr → Prop) (ρ : En) (σ : L2.St) (H : Hp) : Prop where
  len : σ.length = ρ.length
  fc : ∀ a, H a = none → ok a
  h0 : ∀ a, H a = none → g.H0 a = none
  val : ∀ (i : Nat) (d : D), ρ[i]? = some (.val d) → ∃ v, σ[i]? = some (some v) ∧ Rep K ok H v d
  own : ∀ (i : Nat) (d : D), ρ[i]? = some (.own d) → ∃ q, σ[i]? = some (some (.ref q)) ∧ OwnAt K ok H q d ∧ ¬ ok q ∧ (i ∈ g.B ∨ g.H0 q = none)
  apart : ∀ (i j : Nat) (d e : D) (q : Addr), ρ[i]? = some (.own d) → ρ[j]? = some (.own e) → σ[i]? = some (some (.ref q)) → σ[j]? = some (some (.ref q)) → i = j
section
variable {K : PySem.W.Frag} {g : Gx} {ok ok' : Addr → Prop} {ρ : En} {σ : L2.St} {H H' : Hp}
theorem Wf.step (w : Wf K g ok ρ σ H) (f : Fr ok H ok' H') (fc : ∀ a, H' a = none → ok' a)
    (ho : ∀ (i : Nat) (d : D) (q : Addr), ρ[i]? = some (.own d) → σ[i]? = some (some (.ref q)) → H' q = H q ∧ ¬ ok' q) : Wf K g ok' ρ σ H' := by
  refine ⟨w.len, fc, fun a h => w.h0 a (f.all a h), fun i d h => ?_, fun i d h => ?_, w.apart⟩
  · obtain ⟨v, e, r⟩ := w.val i d h
    exact ⟨v, e, r.fr f⟩
  · obtain ⟨q, e, r, n, b⟩ := w.own i d h
    obtain ⟨h1, h2⟩ := ho i d q h e
    exact ⟨q, e, r.fr f h1, h2, b⟩
theorem fr_new {p : Addr} {o : HO} (n : H p = none) : Fr ok H ok (upd H p o) :=
  ⟨fun a u h _ => .inl (by rw [upd_ne (ne_of_none h n)]; exact h), fun _ _ _ h => h, fun a h => by
    by_cases z : a = p
    · rw [z]; exact n
    · rw [upd_ne z] at h; exact h⟩
/-- a new thing -/
theorem Wf.new {p : Addr} {o : HO} (w : Wf K g ok ρ σ H) (n : H p = none) : Wf K g ok ρ σ (upd H p o) := by
  refine w.step (fr_new n) (fun a h => w.fc a ((fr_new (ok := ok) n).all a h)) fun i d q h e => ?_
  obtain ⟨q', e', r, nk, _⟩ := w.own i d h
  rw [e] at e'
  cases e'
  obtain ⟨u, hu, _⟩ := r.there
  exact ⟨upd_ne (ne_of_none hu n), nk⟩
def sub1 (ok : Addr → Prop) (p : Addr) : Addr → Prop := fun a => ok a ∧ a ≠ p
def add1 (ok : Addr → Prop) (p : Addr) : Addr → Prop := fun a => ok a ∨ a = p
theorem fr_sub {p : Addr} {o : HO} (n : H p = none) : Fr ok H (sub1 ok p) (upd H p o) :=
  ⟨fun a u h _ => .inl (by rw [upd_ne (ne_of_none h n)]; exact h), fun _ _ h k => ⟨k, ne_of_none h n⟩, (fr_new (ok := ok) n).all⟩
/-- a new thing that is written on -/
theorem Wf.newO {p : Addr} {o : HO} (w : Wf K g ok ρ σ H) (n : H p = none) : Wf K g (sub1 ok p) ρ σ (upd H p o) := by
  refine w.step (fr_sub n) (fun a h => ?_) fun i d q h e => ?_
  · by_cases z : a = p
    · rw [z, upd_same] at h; cases h
    · rw [upd_ne z] at h; exact ⟨w.fc a h, z⟩
  · obtain ⟨q', e', r, nk, _⟩ := w.own i d h
    rw [e] at e'
    cases e'
    obtain ⟨u, hu, _⟩ := r.there
    exact ⟨upd_ne (ne_of_none hu n), fun z => nk z.1⟩
theorem fr_add {p : Addr} : Fr ok H (add1 ok p) H := ⟨fun _ _ h _ => .inl h, fun _ _ _ h => .inl h, fun _ h => h⟩
/-- a thing that no name holds is written no more -/
theorem Wf.add {p : Addr} (w : Wf K g ok ρ σ H) (np : ∀ (j : Nat) (e : D), ρ[j]? = some (.own e) → σ[j]? ≠ some (some (.ref p))) : Wf K g (add1 ok p) ρ σ H := by
  refine w.step fr_add (fun a h => .inl (w.fc a h)) fun i d q h e => ⟨rfl, ?_⟩
  obtain ⟨q', e', r, nk, _⟩ := w.own i d h
  rw [e] at e'
  cases e'
  rintro (z | z)
  · exact nk z
  · exact np i d h (by rw [e, z])
theorem get_set_self {α : Type} {l : List α} {i : Nat} {x y : α} (h : (l.set i x)[i]? = some y) : y = x := by
  rw [List.getElem?_set] at h
  rw [if_pos rfl] at h
  split at h
  · exact (Option.some.inj h).symm
  · cases h
/-- the name's own thing is written no more -/
theorem Wf.freeze {i : Nat} {d : D} {q : Addr} (w : Wf K g ok ρ σ H) (h : ρ[i]? = some (.own d)) (hq : σ[i]? = some (some (.ref q))) :
    Wf K g (add1 ok q) (ρ.set i (.val d)) σ H ∧ Rep K (add1 ok q) H (.ref q) d := by
  obtain ⟨q', e', r, nk, b⟩ := w.own i d h
  rw [hq] at e'
  cases e'
  have rp : Rep K (add1 ok q) H (.ref q) d := r.rep fr_add (.inr rfl)
  have f : Fr ok H (add1 ok q) H := fr_add
  refine ⟨⟨by rw [List.length_set]; exact w.len, fun a z => .inl (w.fc a z), w.h0, fun j e z => ?_, fun j e z => ?_, fun j k d1 d2 p h1 h2 e1 e2 => ?_⟩, rp⟩
  · by_cases hj : j = i
    · subst hj
      cases get_set_self z
      exact ⟨_, hq, rp⟩
    · rw [List.getElem?_set_ne (Ne.symm hj)] at z
      obtain ⟨v, e1, r1⟩ := w.val j e z
      exact ⟨v, e1, r1.fr f⟩
  · by_cases hj : j = i
    · subst hj
      cases get_set_self z
    · rw [List.getElem?_set_ne (Ne.symm hj)] at z
      obtain ⟨p, e1, r1, n1, b1⟩ := w.own j e z
      refine ⟨p, e1, r1.fr f rfl, ?_, b1⟩
      rintro (y | y)
      · exact n1 y
      · exact hj (w.apart j i e d p z h e1 (by rw [hq, y]))
  · have n1 : j ≠ i := fun z => by subst z; cases get_set_self h1
    have n2 : k ≠ i := fun z => by subst z; cases get_set_self h2
    rw [List.getElem?_set_ne (Ne.symm n1)] at h1
    rw [List.getElem?_set_ne (Ne.symm n2)] at h2
    exact w.apart j k d1 d2 p h1 h2 e1 e2
/-- the name's own thing is written -/
theorem Wf.write {i : Nat} {d e : D} {q : Addr} {o : HO} (w : Wf K g ok ρ σ H) (h : ρ[i]? = some (.own d)) (hq : σ[i]? = some (some (.ref q)))
    (ne : OwnAt K ok (upd H q o) q e) : Wf K g ok (ρ.set i (.own e)) σ (upd H q o) ∧ Fr ok H ok (upd H q o) := by
  obtain ⟨q', e', r, nk, b⟩ := w.own i d h
  rw [hq] at e'
  cases e'
  obtain ⟨u, hu, hv⟩ := r.there
  have f : Fr ok H ok (upd H q o) := .of (fun a x ha hk => by
      have : a ≠ q := fun z => by
        subst z
        rw [hu] at ha
        cases ha
        exact nk (hk hv)
      rw [upd_ne this]; exact ha) (fun _ _ _ k => k) (fun a ha => by
    by_cases z : a = q
    · rw [z, upd_same] at ha; cases ha
    · rw [upd_ne z] at ha; exact ha)
  refine ⟨⟨by rw [List.length_set]; exact w.len, fun a z => w.fc a (f.all a z), fun a z => w.h0 a (f.all a z), fun j x z => ?_, fun j x z => ?_, fun j k d1 d2 p h1 h2 e1 e2 => ?_⟩, f⟩
  · have hj : j ≠ i := fun y => by subst y; cases get_set_self z
    rw [List.getElem?_set_ne (Ne.symm hj)] at z
    obtain ⟨v, e1, r1⟩ := w.val j x z
    exact ⟨v, e1, r1.fr f⟩
  · by_cases hj : j = i
    · subst hj
      cases get_set_self z
      exact ⟨q, hq, ne, nk, b⟩
    · rw [List.getElem?_set_ne (Ne.symm hj)] at z
      obtain ⟨p, e1, r1, n1, b1⟩ := w.own j x z
      refine ⟨p, e1, r1.fr f ?_, n1, b1⟩
      refine upd_ne fun y => hj (w.apart j i x d p z h e1 (by rw [hq, y]))
  · have o1 : ∃ x, ρ[j]? = some (.own x) := by
      by_cases hj : j = i
      · exact ⟨d, by rw [hj]; exact h⟩
      · rw [List.getElem?_set_ne (Ne.symm hj)] at h1; exact ⟨_, h1⟩
    have o2 : ∃ x, ρ[k]? = some (.own x) := by
      by_cases hj : k = i
      · exact ⟨d, by rw [hj]; exact h⟩
      · rw [List.getElem?_set_ne (Ne.symm hj)] at h2; exact ⟨_, h2⟩
    obtain ⟨x1, h1⟩ := o1
    obtain ⟨x2, h2⟩ := o2
    exact w.apart j k x1 x2 p h1 h2 e1 e2
/-- a name is given a value -/
theorem Wf.set {i : Nat} {v : V} {d : D} (w : Wf K g ok ρ σ H) (r : Rep K ok H v d) : Wf K g ok (ρ.set i (.val d)) (σ.set i (some v)) H := by
  refine ⟨by rw [List.length_set, List.length_set]; exact w.len, w.fc, w.h0, fun j e z => ?_, fun j e z => ?_, fun j k d1 d2 p h1 h2 e1 e2 => ?_⟩
  · by_cases hj : j = i
    · subst hj
      cases get_set_self z
      refine ⟨v, ?_, r⟩
      have := (List.getElem?_eq_some_iff.mp z).1
      rw [List.length_set] at this
      rw [List.getElem?_set_self (by rw [w.len]; exact this)]
    · rw [List.getElem?_set_ne (Ne.symm hj)] at z ⊢
      exact w.val j e z
  · have hj : j ≠ i := fun y => by subst y; cases get_set_self z
    rw [List.getElem?_set_ne (Ne.symm hj)] at z ⊢
    exact w.own j e z
  · have n1 : j ≠ i := fun z => by subst z; cases get_set_self h1
    have n2 : k ≠ i := fun z => by subst z; cases get_set_self h2
    rw [List.getElem?_set_ne (Ne.symm n1)] at h1 e1
    rw [List.getElem?_set_ne (Ne.symm n2)] at h2 e2
    exact w.apart j k d1 d2 p h1 h2 e1 e2
/-- a name is given a thing of its own -/
theorem Wf.setO {i : Nat} {d : D} {q : Addr} (w : Wf K g ok ρ σ H) (r : OwnAt K ok H q d) (nk : ¬ ok q) (n0 : g.H0 q = none)
    (np : ∀ (j : Nat) (e : D), ρ[j]? = some (.own e) → σ[j]? ≠ some (some (.ref q))) : Wf K g ok (ρ.set i (.own d)) (σ.set i (some (.ref q))) H := by
  refine ⟨by rw [List.length_set, List.length_set]; exact w.len, w.fc, w.h0, fun j e z => ?_, fun j e z => ?_, fun j k d1 d2 p h1 h2 e1 e2 => ?_⟩
  · have hj : j ≠ i := fun y => by subst y; cases get_set_self z
    rw [List.getElem?_set_ne (Ne.symm hj)] at z ⊢
    exact w.val j e z
  · by_cases hj : j = i
    · subst hj
      cases get_set_self z
      refine ⟨q, ?_, r, nk, .inr n0⟩
      have := (List.getElem?_eq_some_iff.mp z).1
      rw [List.length_set] at this
      rw [List.getElem?_set_self (by rw [w.len]; exact this)]
    · rw [List.getElem?_set_ne (Ne.symm hj)] at z ⊢
      exact w.own j e z
  · by_cases hj : j = i
    · by_cases hk : k = i
      · rw [hj, hk]
      · subst hj
        rw [List.getElem?_set_ne (Ne.symm hk)] at h2 e2
        cases get_set_self e1
        exact absurd e2 (np k d2 h2)
    · rw [List.getElem?_set_ne (Ne.symm hj)] at h1 e1
      by_cases hk : k = i
      · subst hk
        cases get_set_self e2
        exact absurd e1 (np j d1 h1)
      · rw [List.getElem?_set_ne (Ne.symm hk)] at h2 e2
        exact w.apart j k d1 d2 p h1 h2 e1 e2
/-- a name's worth is forgotten -/
theorem Wf.drop {i : Nat} (w : Wf K g ok ρ σ H) : Wf K g ok (ρ.set i .un) σ H := by
  have back : ∀ {j : Nat} {s : Slot}, s ≠ .un → (ρ.set i .un)[j]? = some s → ρ[j]? = some s := fun {j s} ns h => by
    by_cases hj : j = i
    · subst hj
      exact absurd (get_set_self h) ns
    · rw [List.getElem?_set_ne (Ne.symm hj)] at h; exact h
  exact ⟨by rw [List.length_set]; exact w.len, w.fc, w.h0, fun j e z => w.val j e (back (fun y => by cases y) z), fun j e z => w.own j e (back (fun y => by cases y) z), fun j k d1 d2 p h1 h2 e1 e2 => w.apart j k d1 d2 p (back (fun y => by cases y) h1) (back (fun y => by cases y) h2) e1 e2⟩
/-- what may be written here: the things that names alone hold -/
def wrs (ρ : En) (σ : L2.St) (a : Addr) : Prop := ∃ (i : Nat) (d : D), ρ[i]? = some (.own d) ∧ σ[i]? = some (some (.ref a))
/-- as it was, or a value's dict, locked -/
def KeptO (ok : Addr → Prop) (H' : Hp) (a : Addr) (o : HO) : Prop := H' a = some o ∨ (ok a ∧ isDct o = true ∧ ∃ ob, H' a = some (.frz ob o))
theorem KeptO.same {ok : Addr → Prop} {H' : Hp} {a : Addr} {o : HO} (k : KeptO ok H' a o) (n : ¬ ok a) : H' a = some o := by
  rcases k with h | ⟨z, _⟩
  · exact h
  · exact absurd z n
theorem KeptO.then {ok ok1 : Addr → Prop} {H1 H2 : Hp} {a : Addr} {o : HO} (k : KeptO ok H1 a o) (b : ∀ o', H1 a = some o' → KeptO ok1 H2 a o') (g : ok1 a → ok a) : KeptO ok H2 a o := by
  rcases k with h | ⟨z, d, ob, h⟩
  · rcases b _ h with q | ⟨y, d, q⟩
    · exact .inl q
    · exact .inr ⟨g y, d, q⟩
  · rcases b _ h with q | ⟨_, d', _⟩
    · exact .inr ⟨z, d, ob, q⟩
    · cases d'
/-- from one moment to a later one, the names' values as they are -/
structure Sx (σ : L2.St) (ρ : En) (ok : Addr → Prop) (H : Hp) (ρ' : En) (ok' : Addr → Prop) (H' : Hp) : Prop where
  fr : Fr ok H ok' H'
  keep : ∀ a o, H a = some o → ¬ wrs ρ σ a → KeptO ok H' a o
  sub : ∀ a, wrs ρ' σ a → wrs ρ σ a
  grow : ∀ a o, H a = some o → ok' a → ok a ∨ wrs ρ σ a
theorem Sx.refl : Sx σ ρ ok H ρ ok H := ⟨Fr.refl, fun _ _ h _ => .inl h, fun _ h => h, fun _ _ _ h => .inl h⟩
theorem Fr.there {ok ok' : Addr → Prop} {H H' : Hp} (f : Fr ok H ok' H') {a : Addr} {o : HO} (h : H a = some o) : ∃ o', H' a = some o' := by
  cases e : H' a with
  | none => rw [f.all a e] at h; cases h
  | some o' => exact ⟨o', rfl⟩
theorem Sx.trans {ρ1 ρ2 : En} {ok1 ok2 : Addr → Prop} {H1 H2 : Hp} (a : Sx σ ρ ok H ρ1 ok1 H1) (b : Sx σ ρ1 ok1 H1 ρ2 ok2 H2) : Sx σ ρ ok H ρ2 ok2 H2 :=
  ⟨a.fr.trans b.fr, fun c o h n => (a.keep c o h n).then (fun o' h' => b.keep c o' h' fun z => n (a.sub c z)) (fun z => (a.grow c o h z).elim id fun y => absurd y n), fun c h => a.sub c (b.sub c h), fun c o h k => by
    obtain ⟨o', h'⟩ := a.fr.there h
    rcases b.grow c o' h' k with z | z
    · exact a.grow c o h z
    · exact .inr (a.sub c z)⟩
theorem Sx.new {p : Addr} {o : HO} (n : H p = none) : Sx σ ρ ok H ρ ok (upd H p o) := ⟨fr_new n, fun a u h _ => .inl (by rw [upd_ne (ne_of_none h n)]; exact h), fun _ h => h, fun _ _ _ h => .inl h⟩
theorem Sx.newO {p : Addr} {o : HO} (n : H p = none) : Sx σ ρ ok H ρ (sub1 ok p) (upd H p o) := ⟨fr_sub n, fun a u h _ => .inl (by rw [upd_ne (ne_of_none h n)]; exact h), fun _ h => h, fun _ _ _ h => .inl h.1⟩
theorem wrs_set {i : Nat} {s : Slot} {a : Addr} (ns : ∀ d, s ≠ .own d) (h : wrs (ρ.set i s) σ a) : wrs ρ σ a := by
  obtain ⟨j, d, h1, h2⟩ := h
  have hj : j ≠ i := fun z => by subst z; exact ns d (get_set_self h1).symm
  rw [List.getElem?_set_ne (Ne.symm hj)] at h1
  exact ⟨j, d, h1, h2⟩
theorem Sx.freeze {i : Nat} {d : D} {q : Addr} (hi : ρ[i]? = some (.own d)) (hq : σ[i]? = some (some (.ref q))) : Sx σ ρ ok H (ρ.set i (.val d)) (add1 ok q) H := ⟨fr_add, fun _ _ h _ => .inl h, fun _ h => wrs_set (fun _ z => by cases z) h, fun a _ _ h => h.elim .inl fun z => .inr ⟨i, d, hi, by rw [z]; exact hq⟩⟩
/-- a thing that came meanwhile and that no name holds is written no more -/
theorem Sx.add {ρ1 : En} {ok1 : Addr → Prop} {H1 : Hp} {p : Addr} (s : Sx σ ρ ok H ρ1 ok1 H1) (n : H p = none) : Sx σ ρ ok H ρ1 (add1 ok1 p) H1 := ⟨s.fr.trans fr_add, s.keep, s.sub, fun a o h k => k.elim (s.grow a o h) fun z => by rw [z, n] at h; cases h⟩
theorem Sx.drop {i : Nat} : Sx σ ρ ok H (ρ.set i .un) ok H := ⟨Fr.refl, fun _ _ h _ => .inl h, fun _ h => wrs_set (fun _ z => by cases z) h, fun _ _ _ h => .inl h⟩
theorem Wf.wr {a : Addr} (w : Wf K g ok ρ σ H) (h : wrs ρ σ a) : ¬ ok a ∧ ∃ o, H a = some o ∧ Vol o := by
  obtain ⟨i, d, h1, h2⟩ := h
  obtain ⟨q, e, r, nk, _⟩ := w.own i d h1
  rw [h2] at e
  cases e
  exact ⟨nk, r.there⟩
theorem Sx.write {i : Nat} {d e : D} {q : Addr} {o : HO} (w : Wf K g ok ρ σ H) (h : ρ[i]? = some (.own d)) (hq : σ[i]? = some (some (.ref q)))
    (ne : OwnAt K ok (upd H q o) q e) : Sx σ ρ ok H (ρ.set i (.own e)) ok (upd H q o) := by
  refine ⟨(w.write h hq ne).2, fun a u ha na => ?_, fun a ha => ?_, fun _ _ _ k => .inl k⟩
  · exact .inl (by rw [upd_ne (fun z => na ⟨i, d, h, by rw [hq, z]⟩)]; exact ha)
  · obtain ⟨j, x, h1, h2⟩ := ha
    by_cases hj : j = i
    · subst hj
      exact ⟨j, d, h, h2⟩
    · rw [List.getElem?_set_ne (Ne.symm hj)] at h1
      exact ⟨j, x, h1, h2⟩
end
end Pu
/-! Readings in the tree world. -/
namespace Pu
open PySem PySem.Spec PyProof.Rows L2 Kv
inductive Ex (α : Type) where
  | ok (a : α) (ρ : En)
  | er (c : Value) (ns : List Str) (ds : List D) (ρ : En)
/-- a step in the tree world: stuck, done, or raised -/
abbrev P (α : Type) := En → Option (Ex α)
section
variable {α β : Type}
def prt (a : α) : P α := fun ρ => some (.ok a ρ)
def bnd (m : P α) (k : α → P β) : P β := fun ρ => match m ρ with
  | none => none
  | some (.er c ns ds ρ') => some (.er c ns ds ρ')
  | some (.ok a ρ') => k a ρ'
def lft (o : Option α) : P α := fun ρ => match o with
  | some a => some (.ok a ρ)
  | none => none
theorem bnd_ok {m : P α} {k : α → P β} {ρ ρ' : En} {a : α} (h : m ρ = some (.ok a ρ')) : bnd m k ρ = k a ρ' := by unfold bnd; rw [h]
theorem bnd_er {m : P α} {k : α → P β} {ρ ρ' : En} {c : Value} {ns : List Str} {ds : List D} (h : m ρ = some (.er c ns ds ρ')) : bnd m k ρ = some (.er c ns ds ρ') := by unfold bnd; rw [h]
theorem bnd_none {m : P α} {k : α → P β} {ρ : En} (h : m ρ = none) : bnd m k ρ = none := by unfold bnd; rw [h]
theorem bnd_ret {a : α} {k : α → P β} : bnd (prt a) k = k a := rfl
theorem lft_some {a : α} : lft (some a) = prt a := rfl
end
/-- what is wanted of an exception -/
abbrev Wx := L2.St → XK
def noE : Wx := fun _ _ _ _ => False
/-- the heap ahead of the step; then where lists may lie, the heap, the names, their values; what came, and its tree -/
abbrev Rl (γ α : Type) := Hp → (Addr → Prop) → Hp → En → L2.St → γ → α → Prop
def Mono {γ α : Type} (R : Rl γ α) : Prop := ∀ H H1 ok' H' ρ' σ v a, (∀ a, H1 a = none → H a = none) → R H1 ok' H' ρ' σ v a → R H ok' H' ρ' σ v a
/-- what must hold behind a step -/
def Rs {γ α : Type} (K : PySem.W.Frag) (g : Gx) (E : Wx) (Rel : Rl γ α) (σ : L2.St) (ρ : En) (ok : Addr → Prop) (H : Hp) (o : Option (Ex α)) (Q : γ → Hp → Prop) : Prop :=
  match o with
  | none => False
  | some (.ok a ρ') => ∀ v H' ok', Wf K g ok' ρ' σ H' → Sx σ ρ ok H ρ' ok' H' → Rel H ok' H' ρ' σ v a → Q v H'
  | some (.er c ns ds ρ') => ∀ dx fs H' ok', Wf K g ok' ρ' σ H' → Sx σ ρ ok H ρ' ok' H' → H' dx = some (.xd fs) → fs.map (·.1) = ns → Reps K ok' H' (fs.map (·.2)) ds → E σ c (some dx) H'
def tX {γ α : Type} (K : PySem.W.Frag) (g : Gx) (E : Wx) (Rel : Rl γ α) (f : P α) : L2.St → Hp → (γ → Hp → Prop) → Prop := fun σ H Q =>
  ∃ ok ρ, Wf K g ok ρ σ H ∧ Rs K g E Rel σ ρ ok H (f ρ) Q
abbrev relD (K : PySem.W.Frag) : Rl V D := fun _ ok H _ _ v d => Rep K ok H v d
/-- read now: a value, or a list or dict that a name still writes -/
def Pk (K : PySem.W.Frag) (ok : Addr → Prop) (H : Hp) (v : V) (d : D) : Prop := Rep K ok H v d ∨ ∃ q, v = .ref q ∧ OwnAt K ok H q d
abbrev relP (K : PySem.W.Frag) : Rl V D := fun _ ok H _ _ v d => Pk K ok H v d
abbrev relB : Rl Bool Bool := fun _ _ _ _ _ c b => c = b
abbrev relA (K : PySem.W.Frag) : Rl (List V) (List D) := fun _ ok H _ _ v d => Reps K ok H v d
/-- a value, or a new list or dict that nobody holds yet -/
inductive R where
  | val (d : D)
  | own (d : D)
@[reducible] def R.d : R → D
  | .val d => d
  | .own d => d
def relR (K : PySem.W.Frag) : Rl V R := fun H0 ok H ρ σ v r => match r with
  | .val d => Rep K ok H v d
  | .own d => ∃ q, v = .ref q ∧ OwnAt K ok H q d ∧ ¬ ok q ∧ H0 q = none ∧ ∀ (j : Nat) (e : D), ρ[j]? = some (.own e) → σ[j]? ≠ some (some (.ref q))
theorem monoD {K : PySem.W.Frag} : Mono (relD K) := fun _ _ _ _ _ _ _ _ _ r => r
theorem monoP {K : PySem.W.Frag} : Mono (relP K) := fun _ _ _ _ _ _ _ _ _ r => r
theorem monoA {K : PySem.W.Frag} : Mono (relA K) := fun _ _ _ _ _ _ _ _ _ r => r
theorem monoB : Mono relB := fun _ _ _ _ _ _ _ _ _ r => r
theorem monoR {K : PySem.W.Frag} : Mono (relR K) := fun H H1 ok' H' ρ' σ v a h r => by
  cases a with
  | val d => exact r
  | own d => obtain ⟨q, e, o, nk, n0, np⟩ := r; exact ⟨q, e, o, nk, h q n0, np⟩
section
variable {γ δ α β : Type} {K : PySem.W.Frag} {g : Gx} {E : Wx} {σ : L2.St} {ok ok1 : Addr → Prop} {H H1 : Hp} {ρ : En}
theorem Rs.mono {Rel : Rl γ α} {o : Option (Ex α)} {Q Q' : γ → Hp → Prop} (h : Rs K g E Rel σ ρ ok H o Q) (q : ∀ v H', Q v H' → Q' v H') : Rs K g E Rel σ ρ ok H o Q' := by
  match o, h with
  | some (.ok a ρ'), h => exact fun v H' ok' w f r => q v H' (h v H' ok' w f r)
  | some (.er c ns ds ρ'), h => exact h
theorem Rs.shift {Rel : Rl γ α} {ρ1 : En} {o : Option (Ex α)} {Q : γ → Hp → Prop} (h : Rs K g E Rel σ ρ ok H o Q) (f : Sx σ ρ ok H ρ1 ok1 H1) (mo : Mono Rel) : Rs K g E Rel σ ρ1 ok1 H1 o Q := by
  match o, h with
  | some (.ok a ρ'), h => exact fun v H' ok' w f' r => h v H' ok' w (f.trans f') (mo _ _ _ _ _ _ _ _ f.fr.all r)
  | some (.er c ns ds ρ'), h => exact fun dx fs H' ok' w f' => h dx fs H' ok' w (f.trans f')
/-- one step, then another -/
theorem Rs.bnd {RA : Rl γ α} {RB : Rl δ β} {m : P α} {k : α → P β} {Q : δ → Hp → Prop} (h : Rs K g E RB σ ρ ok H (bnd m k ρ) Q) (mo : Mono RB := by first | exact monoD | exact monoB | exact monoA | exact monoP | exact monoR | assumption) :
    Rs K g E RA σ ρ ok H (m ρ) (fun v1 H1 => ∃ ok1 ρ1 a, Wf K g ok1 ρ1 σ H1 ∧ Sx σ ρ ok H ρ1 ok1 H1 ∧ RA H ok1 H1 ρ1 σ v1 a ∧ Rs K g E RB σ ρ1 ok1 H1 (k a ρ1) Q) := by
  cases e : m ρ with
  | none => unfold Pu.bnd at h; rw [e] at h; exact h
  | some x =>
    cases x with
    | ok a ρ' =>
      rw [bnd_ok e] at h
      exact fun v H' ok' w f r => ⟨ok', ρ', a, w, f, r, h.shift f mo⟩
    | er c ns ds ρ' => rw [bnd_er e] at h; exact h
end
abbrev EV (X : Cx) (g : Gx) (E : Wx) (e : Expr) (f : P D) : Prop := PE X e (tX X.K g E (relD X.K) f)
abbrev EP (X : Cx) (g : Gx) (E : Wx) (e : Expr) (f : P D) : Prop := PE X e (tX X.K g E (relP X.K) f)
abbrev ER (X : Cx) (g : Gx) (E : Wx) (e : Expr) (f : P R) : Prop := PE X e (tX X.K g E (relR X.K) f)
abbrev ET (X : Cx) (g : Gx) (E : Wx) (e : Expr) (f : P Bool) : Prop := PT X e (tX X.K g E relB f)
abbrev EW (X : Cx) (g : Gx) (E : Wx) (e : Expr) (f : P Bool) : Prop := PW X e (tX X.K g E relB f)
abbrev EA (X : Cx) (g : Gx) (E : Wx) (es : List Expr) (f : P (List D)) : Prop := PA X es (tX X.K g E (relA X.K) f)
section
variable {X : Cx} {g : Gx} {E : Wx} {a b c e : Expr} {es : List Expr} {pos : Pos} {fa fb fc : P D}
theorem PE_imp {t t' : TE} (h : PE X e t) (q : ∀ σ H Q, t' σ H Q → t σ H Q) : PE X e t' := ⟨fun pins s σ H Q I z => h.run pins s σ H Q I (q σ H Q z)⟩
theorem PT_imp {t t' : TT} (h : PT X e t) (q : ∀ σ H Q, t' σ H Q → t σ H Q) : PT X e t' := ⟨fun pins s σ H Q I z => h.run pins s σ H Q I (q σ H Q z)⟩
theorem PW_imp {t t' : TT} (h : PW X e t) (q : ∀ σ H Q, t' σ H Q → t σ H Q) : PW X e t' := ⟨fun wh pins s σ H Q I z => h.run wh pins s σ H Q I (q σ H Q z)⟩
theorem PA_imp {t t' : TA} (h : PA X es t) (q : ∀ σ H Q, t' σ H Q → t σ H Q) : PA X es t' := ⟨fun po pins s σ H Q I z => h.run po pins s σ H Q I (q σ H Q z)⟩
/-- a new thing, held by nobody, is a value -/
theorem relR.toD {K : PySem.W.Frag} {ok ok1 : Addr → Prop} {H H1 : Hp} {ρ ρ1 : En} {σ : L2.St} {v : V} {r : R} (w : Wf K g ok1 ρ1 σ H1) (s : Sx σ ρ ok H ρ1 ok1 H1) (h : relR K H ok1 H1 ρ1 σ v r) :
    ∃ ok', Wf K g ok' ρ1 σ H1 ∧ Sx σ ρ ok H ρ1 ok' H1 ∧ Rep K ok' H1 v r.d := by
  cases r with
  | val d => exact ⟨ok1, w, s, h⟩
  | own d =>
    obtain ⟨q, rfl, o, nk, n0, np⟩ := h
    exact ⟨add1 ok1 q, w.add np, s.add n0, o.rep fr_add (.inr rfl)⟩
def fz (f : P R) : P D := bnd f fun r => prt r.d
def vl (f : P D) : P R := bnd f fun d => prt (.val d)
theorem ev_fz {f : P R} (h : ER X g E e f) : EV X g E e (fz f) := by
  refine PE_imp h fun σ H Q hq => ?_
  obtain ⟨ok, ρ, w, h⟩ := hq
  refine ⟨ok, ρ, w, ?_⟩
  unfold fz at h
  cases e : f ρ with
  | none => rw [bnd_none e] at h; exact h
  | some x =>
    cases x with
    | er c ns ds ρ' => rw [bnd_er e] at h; exact h
    | ok r ρ' =>
      rw [bnd_ok e] at h
      intro v H1 ok1 w1 s1 r1
      obtain ⟨ok2, w2, s2, r2⟩ := relR.toD w1 s1 r1
      exact h v H1 ok2 w2 s2 r2
theorem er_vl {f : P D} (h : EV X g E e f) : ER X g E e (vl f) := by
  refine PE_imp h fun σ H Q hq => ?_
  obtain ⟨ok, ρ, w, h⟩ := hq
  refine ⟨ok, ρ, w, (Rs.bnd (RA := relD X.K) h).mono fun v H1 hq => ?_⟩
  obtain ⟨ok1, ρ1, r, w1, f1, r1, h1⟩ := hq
  exact h1 v H1 ok1 w1 Sx.refl r1
/-- a name -/
def rd (i : Nat) : P D := fun ρ => match ρ[i]? with
  | some (.val d) => some (.ok d ρ)
  | some (.own d) => some (.ok d (ρ.set i (.val d)))
  | _ => none
theorem ev_name {i : Nat} {x : Str} (hN : X.N[i]? = some x) (hv : Vis X.env.scope x) (hd : (x == ("__debug__" : Str)) = false := by decide) (hcd : (x == ("__classdict__" : Str)) = false := by decide) : EV X g E (.Name x pos) (rd i) := by
  refine PE_imp (pe_var hN hv hd hcd) fun σ H Q hq => ?_
  obtain ⟨ok, ρ, w, h⟩ := hq
  unfold rd at h
  cases e : ρ[i]? with
  | none => rw [e] at h; exact h.elim
  | some s =>
    rw [e] at h
    cases s with
    | un => exact h.elim
    | val d =>
      obtain ⟨v, ev, r⟩ := w.val i d e
      exact ⟨v, ev, h v H ok w Sx.refl r⟩
    | own d =>
      obtain ⟨q, eq, _⟩ := w.own i d e
      obtain ⟨w2, r2⟩ := w.freeze e eq
      exact ⟨_, eq, h _ H _ w2 (Sx.freeze e eq) r2⟩
theorem ev_const {v : V} {d : D} (h : PE X e (tC v)) (r : ∀ ok H, Rep X.K ok H v d) : EV X g E e (prt d) := by
  refine PE_imp h fun σ H Q hq => ?_
  obtain ⟨ok, ρ, w, h⟩ := hq
  exact h v H ok w Sx.refl (r ok H)
theorem ev_int {i : Int} {j} : EV X g E (.Constant (.int i) j pos) (prt (.int i)) := ev_const pe_int fun _ _ => .int i
theorem ev_bl {b : Bool} {j} : EV X g E (.Constant (.bool b) j pos) (prt (.bl b)) := ev_const pe_bl fun _ _ => .bl b
theorem ev_non {j} : EV X g E (.Constant .none j pos) (prt .non) := ev_const pe_non fun _ _ => .non
theorem ev_str {x : Str} {j} : EV X g E (.Constant (.str x) j pos) (prt (.str x)) := ev_const pe_str fun _ _ => .str x
theorem ev_gstr {x z : Str} {t : Tok} (hg : Gl X x) (hm : X.mg x = some (.str z t)) (hd : (x == ("__debug__" : Str)) = false := by decide) : EV X g E (.Name x pos) (prt (.str z)) :=
  ev_const (pe_glob (v := .str z) hg hm ⟨_, rfl⟩ hd) fun _ _ => .str z
theorem ev_gint {x : Str} {z : Int} {t : Tok} (hg : Gl X x) (hm : X.mg x = some (.int z t)) (hd : (x == ("__debug__" : Str)) = false := by decide) : EV X g E (.Name x pos) (prt (.int z)) :=
  ev_const (pe_glob (v := .int z) hg hm ⟨_, rfl⟩ hd) fun _ _ => .int z
theorem ep_of {f : P D} (h : EV X g E e f) : EP X g E e f := by
  refine PE_imp h fun σ H Q hq => ?_
  obtain ⟨ok, ρ, w, h⟩ := hq
  refine ⟨ok, ρ, w, ?_⟩
  match f ρ, h with
  | some (.ok a ρ'), h => exact fun v H' ok' w f r => h v H' ok' w f (.inl r)
  | some (.er c ns ds ρ'), h => exact h
def pk (i : Nat) : P D := fun ρ => match ρ[i]? with
  | some (.val d) => some (.ok d ρ)
  | some (.own d) => some (.ok d ρ)
  | _ => none
theorem pk_wf {K : PySem.W.Frag} {ok : Addr → Prop} {ρ : En} {σ : L2.St} {H : Hp} {i : Nat} {d : D} (w : Wf K g ok ρ σ H) (h : ρ[i]? = some (.val d) ∨ ρ[i]? = some (.own d)) : ∃ v, σ[i]? = some (some v) ∧ Pk K ok H v d := by
  rcases h with h | h
  · obtain ⟨v, e, r⟩ := w.val i d h
    exact ⟨v, e, .inl r⟩
  · obtain ⟨q, e, r, _⟩ := w.own i d h
    exact ⟨_, e, .inr ⟨q, rfl, r⟩⟩
theorem pk_inv {ρ : En} {i : Nat} {x : Ex D} (h : pk i ρ = some x) : ∃ d, x = .ok d ρ ∧ (ρ[i]? = some (.val d) ∨ ρ[i]? = some (.own d)) := by
  unfold pk at h
  cases e : ρ[i]? with
  | none => rw [e] at h; cases h
  | some s =>
    rw [e] at h
    cases s with
    | un => cases h
    | val d => cases h; exact ⟨d, rfl, .inl rfl⟩
    | own d => cases h; exact ⟨d, rfl, .inr rfl⟩
theorem ep_name {i : Nat} {x : Str} (hN : X.N[i]? = some x) (hv : Vis X.env.scope x) (hd : (x == ("__debug__" : Str)) = false := by decide) (hcd : (x == ("__classdict__" : Str)) = false := by decide) : EP X g E (.Name x pos) (pk i) := by
  refine PE_imp (pe_var hN hv hd hcd) fun σ H Q hq => ?_
  obtain ⟨ok, ρ, w, h⟩ := hq
  cases e : pk i ρ with
  | none => rw [e] at h; exact h.elim
  | some x =>
    rw [e] at h
    obtain ⟨d, rfl, h2⟩ := pk_inv e
    obtain ⟨v, ev, r⟩ := pk_wf w h2
    exact ⟨v, ev, h v H ok w Sx.refl r⟩
/-! ### two values -/
/-- d can be handed on -/
def Can (K : PySem.W.Frag) (g : Gx) (ρ : En) (σ : L2.St) (ok : Addr → Prop) (H : Hp) (d : D) (Q : VK) : Prop :=
  ∀ v H' ok', Wf K g ok' ρ σ H' → Sx σ ρ ok H ρ ok' H' → Rep K ok' H' v d → Q v H'
theorem Can.at {K : PySem.W.Frag} {ρ : En} {σ : L2.St} {ok : Addr → Prop} {H : Hp} {d : D} {Q : VK} {v : V} (h : Can K g ρ σ ok H d Q) (w : Wf K g ok ρ σ H) (r : Rep K ok H v d) : Q v H := h v H ok w Sx.refl r
theorem Can.new {K : PySem.W.Frag} {ρ : En} {σ : L2.St} {ok : Addr → Prop} {H : Hp} {d : D} {Q : VK} {p : Addr} {o : HO} (h : Can K g ρ σ ok H d Q) (w : Wf K g ok ρ σ H) (n : H p = none)
    (r : ok p → (upd H p o) p = some o → Fr ok H ok (upd H p o) → Rep K ok (upd H p o) (.ref p) d) : Q (.ref p) (upd H p o) :=
  h (.ref p) _ ok (w.new n) (Sx.new n) (r (w.fc p n) upd_same (fr_new n))
def Op2 (K : PySem.W.Frag) (r : R2) (op : D → D → Option D) : Prop := ∀ (g : Gx) (ρ : En) (σ : L2.St) (ok : Addr → Prop) (H : Hp) (u v : V) (x y z : D) (Q : VK), Wf K g ok ρ σ H → Rep K ok H u x → Pk K ok H v y → op x y = some z → Can K g ρ σ ok H z Q → r u v H Q
def op2 (o : D → D → Option D) (fa fb : P D) : P D := bnd fa fun x => bnd fb fun y => lft (o x y)
theorem tX_op2 {r : R2} {o : D → D → Option D} (h2 : Op2 X.K r o) {σ : L2.St} {H : Hp} {Q : VK} (hq : tX X.K g E (relD X.K) (op2 o fa fb) σ H Q) :
    tOp r (tX X.K g E (relD X.K) fa) (tX X.K g E (relP X.K) fb) σ H Q := by
  obtain ⟨ok, ρ, w, h⟩ := hq
  refine ⟨ok, ρ, w, (Rs.bnd (RA := relD X.K) h).mono fun v1 H1 hq => ?_⟩
  obtain ⟨ok1, ρ1, x, w1, f1, r1, h1⟩ := hq
  refine ⟨ok1, ρ1, w1, (Rs.bnd (RA := relP X.K) h1).mono fun v2 H2 hq => ?_⟩
  obtain ⟨ok2, ρ2, y, w2, f2, r2, h2'⟩ := hq
  unfold lft at h2'
  cases e : o x y with
  | none => rw [e] at h2'; exact h2'.elim
  | some z => rw [e] at h2'; exact h2 g ρ2 σ ok2 H2 v1 v2 x y z Q w2 (Rep.fr f2.fr r1) r2 e h2'
theorem ev_bin {op : Operator} {r : R2} {o : D → D → Option D} (ho : OpR X (binaryOp op) r) (h2 : Op2 X.K r o) (ha : EV X g E a fa) (hb : EP X g E b fb) : EV X g E (.BinOp a op b pos) (op2 o fa fb) :=
  PE_imp (pe_op ho ha hb) fun σ H Q hq => tX_op2 h2 hq
theorem ev_cmp {op : CmpOp} {r : R2} {o : D → D → Option D} (ho : OpR X (compareOp op) r) (h2 : Op2 X.K r o) (ha : EV X g E a fa) (hb : EP X g E b fb) (hm : behindInMarks op b = false) : EV X g E (.Compare a [op] [b] pos) (op2 o fa fb) :=
  PE_imp (pe_cmpR ho ha hb hm) fun σ H Q hq => tX_op2 h2 hq
/-- a bool as a test -/
def asB : D → Option Bool
  | .bl b => some b
  | _ => none
def tst (f : P D) : P Bool := bnd f fun d => lft (asB d)
theorem tX_tst {t : TE} {f : P D} (ht : ∀ σ H Q, tX X.K g E (relD X.K) f σ H Q → t σ H Q) {σ : L2.St} {H : Hp} {Q : Bool → Hp → Prop} (hq : tX X.K g E relB (tst f) σ H Q) :
    t σ H (fun x H' => ∃ k, x = .bl k ∧ Q k H') := by
  obtain ⟨ok, ρ, w, h⟩ := hq
  refine ht σ H _ ⟨ok, ρ, w, (Rs.bnd (RA := relD X.K) h).mono fun v1 H1 hq => ?_⟩
  obtain ⟨ok1, ρ1, x, w1, f1, r1, h1⟩ := hq
  unfold lft at h1
  have r1 : Rep X.K ok1 H1 v1 x := r1
  cases r1 with
  | bl b => exact ⟨b, rfl, h1 b H1 ok1 w1 Sx.refl rfl⟩
  | _ => exact h1.elim
theorem et_cmp {op : CmpOp} {r : R2} {o : D → D → Option D} (ho : OpR X (compareOp op) r) (h2 : Op2 X.K r o) (ha : EV X g E a fa) (hb : EP X g E b fb) (hm : behindInMarks op b = false) : ET X g E (.Compare a [op] [b] pos) (tst (op2 o fa fb)) :=
  PT_imp (pt_cmpR ho ha hb hm) fun σ H Q hq => tX_tst (fun σ H Q h => tX_op2 h2 h) hq
theorem et_val {f : P D} (h : EV X g E e f) (he : ∀ whole, isTrue e X.env whole = (do let v ← whole; standAt e.pos; holding [v] (truthy v)) := by intro _; rfl) : ET X g E e (tst f) :=
  PT_imp (pt_val h he) fun σ H Q hq => tX_tst (fun σ H Q h => h) hq
/-! ### and, or, not, if else -/
variable {A B : P Bool} {rest : List Expr}
def andB (A B : P Bool) : P Bool := bnd A fun c => if c = true then B else prt false
def orB (A B : P Bool) : P Bool := bnd A fun c => if c = true then prt true else B
def notB (A : P Bool) : P Bool := bnd A fun c => prt (!c)
theorem ew_and1 (ha : ET X g E a A) : EW X g E (.BoolOp .And [a] pos) A := pw_and1 ha
theorem ew_or1 (ha : ET X g E a A) : EW X g E (.BoolOp .Or [a] pos) A := pw_or1 ha
theorem ew_and (ha : ET X g E a A) (hb : EW X g E (.BoolOp .And (b :: rest) pos) B) : EW X g E (.BoolOp .And (a :: b :: rest) pos) (andB A B) := by
  refine PW_imp (pw_and ha hb) fun σ H Q hq => ?_
  obtain ⟨ok, ρ, w, h⟩ := hq
  refine ⟨ok, ρ, w, (Rs.bnd (RA := relB) h).mono fun v1 H1 hq => ?_⟩
  obtain ⟨ok1, ρ1, x, w1, f1, r1, h1⟩ := hq
  have r1 : v1 = x := r1
  subst r1
  cases v1 with
  | true => exact ⟨ok1, ρ1, w1, h1⟩
  | false => exact h1 false H1 ok1 w1 Sx.refl rfl
theorem ew_or (ha : ET X g E a A) (hb : EW X g E (.BoolOp .Or (b :: rest) pos) B) : EW X g E (.BoolOp .Or (a :: b :: rest) pos) (orB A B) := by
  refine PW_imp (pw_or ha hb) fun σ H Q hq => ?_
  obtain ⟨ok, ρ, w, h⟩ := hq
  refine ⟨ok, ρ, w, (Rs.bnd (RA := relB) h).mono fun v1 H1 hq => ?_⟩
  obtain ⟨ok1, ρ1, x, w1, f1, r1, h1⟩ := hq
  have r1 : v1 = x := r1
  subst r1
  cases v1 with
  | true => exact h1 true H1 ok1 w1 Sx.refl rfl
  | false => exact ⟨ok1, ρ1, w1, h1⟩
theorem et_not (ha : ET X g E a A) : ET X g E (.UnaryOp .Not a pos) (notB A) := by
  refine PT_imp (pt_not ha) fun σ H Q hq => ?_
  obtain ⟨ok, ρ, w, h⟩ := hq
  refine ⟨ok, ρ, w, (Rs.bnd (RA := relB) h).mono fun v1 H1 hq => ?_⟩
  obtain ⟨ok1, ρ1, x, w1, f1, r1, h1⟩ := hq
  have r1 : v1 = x := r1
  subst r1
  exact h1 _ H1 ok1 w1 Sx.refl rfl
theorem et_w (h : EW X g E a A) : ET X g E a A := PW.pt h
def andV (fa fb : P D) : P D := bnd (tst fa) fun c => if c = true then fb else prt (.bl false)
def orV (fa fb : P D) : P D := bnd (tst fa) fun c => if c = true then prt (.bl true) else fb
def notV (fa : P D) : P D := bnd (tst fa) fun c => prt (.bl (!c))
theorem tX_tst2 {β : Type} {δ : Type} {RB : Rl δ β} {f : P D} {k : Bool → P β} {σ : L2.St} {H : Hp} {Q : δ → Hp → Prop} (hq : tX X.K g E RB (bnd (tst f) k) σ H Q) (mo : Mono RB := by first | exact monoD | exact monoB | exact monoA | exact monoP | exact monoR | assumption) :
    tX X.K g E (relD X.K) f σ H (fun x H1 => ∃ c, x = .bl c ∧ tX X.K g E RB (k c) σ H1 Q) := by
  obtain ⟨ok, ρ, w, h⟩ := hq
  refine tX_tst (X := X) (t := tX X.K g E (relD X.K) f) (Q := fun c H1 => tX X.K g E RB (k c) σ H1 Q) (fun σ H Q h => h) ⟨ok, ρ, w, (Rs.bnd (RA := relB) h).mono fun v1 H1 hq => ?_⟩
  obtain ⟨ok1, ρ1, x, w1, f1, r1, h1⟩ := hq
  have r1 : v1 = x := r1
  subst r1
  exact ⟨ok1, ρ1, w1, h1⟩
theorem tX_ret {γ α : Type} {Rel : Rl γ α} {d : α} {σ : L2.St} {H : Hp} {Q : γ → Hp → Prop} {v : γ} (hq : tX X.K g E Rel (prt d) σ H Q) (r : ∀ ok ρ, Wf X.K g ok ρ σ H → Rel H ok H ρ σ v d) : Q v H := by
  obtain ⟨ok, ρ, w, h⟩ := hq
  exact h v H ok w Sx.refl (r ok ρ w)
theorem ev_one {op} (h : EV X g E a fa) : EV X g E (.BoolOp op [a] pos) fa := pe_one h
theorem ev_and (ha : EV X g E a fa) (hb : EV X g E (.BoolOp .And (b :: rest) pos) fb) : EV X g E (.BoolOp .And (a :: b :: rest) pos) (andV fa fb) := by
  refine PE_imp (pe_and ha hb) fun σ H Q hq => ?_
  obtain ⟨ok, ρ, w, h⟩ := tX_tst2 hq
  refine ⟨ok, ρ, w, h.mono fun v H1 h1 => ?_⟩
  obtain ⟨c, e, h1⟩ := h1
  refine ⟨c, e, ?_⟩
  cases c with
  | true => exact h1
  | false => exact tX_ret (v := .bl false) h1 fun _ _ _ => .bl _
theorem ev_or (ha : EV X g E a fa) (hb : EV X g E (.BoolOp .Or (b :: rest) pos) fb) : EV X g E (.BoolOp .Or (a :: b :: rest) pos) (orV fa fb) := by
  refine PE_imp (pe_or ha hb) fun σ H Q hq => ?_
  obtain ⟨ok, ρ, w, h⟩ := tX_tst2 hq
  refine ⟨ok, ρ, w, h.mono fun v H1 h1 => ?_⟩
  obtain ⟨c, e, h1⟩ := h1
  refine ⟨c, e, ?_⟩
  cases c with
  | true => exact tX_ret (v := .bl true) h1 fun _ _ _ => .bl _
  | false => exact h1
theorem ev_not (ha : EV X g E a fa) : EV X g E (.UnaryOp .Not a pos) (notV fa) := by
  refine PE_imp (pe_not ha) fun σ H Q hq => ?_
  obtain ⟨ok, ρ, w, h⟩ := tX_tst2 hq
  refine ⟨ok, ρ, w, h.mono fun v H1 h1 => ?_⟩
  obtain ⟨c, e, h1⟩ := h1
  exact ⟨c, e, tX_ret (v := .bl (!c)) h1 fun _ _ _ => .bl _⟩
def ifV {α : Type} (A : P Bool) (fa fb : P α) : P α := bnd A fun c => if c = true then fa else fb
theorem ev_if (hc : ET X g E c A) (ha : EV X g E a fa) (hb : EV X g E b fb) : EV X g E (.IfExp c a b pos) (ifV A fa fb) := by
  refine PE_imp (pe_ifExp hc ha hb) fun σ H Q hq => ?_
  obtain ⟨ok, ρ, w, h⟩ := hq
  refine ⟨ok, ρ, w, (Rs.bnd (RA := relB) h).mono fun v1 H1 hq => ?_⟩
  obtain ⟨ok1, ρ1, x, w1, f1, r1, h1⟩ := hq
  have r1 : v1 = x := r1
  subst r1
  cases v1 with
  | true => exact ⟨ok1, ρ1, w1, h1⟩
  | false => exact ⟨ok1, ρ1, w1, h1⟩
theorem er_if {ra rb : P R} (hc : ET X g E c A) (ha : ER X g E a ra) (hb : ER X g E b rb) : ER X g E (.IfExp c a b pos) (ifV A ra rb) := by
  refine PE_imp (pe_ifExp hc ha hb) fun σ H Q hq => ?_
  obtain ⟨ok, ρ, w, h⟩ := hq
  refine ⟨ok, ρ, w, (Rs.bnd (RA := relB) h).mono fun v1 H1 hq => ?_⟩
  obtain ⟨ok1, ρ1, x, w1, f1, r1, h1⟩ := hq
  have r1 : v1 = x := r1
  subst r1
  cases v1 with
  | true => exact ⟨ok1, ρ1, w1, h1⟩
  | false => exact ⟨ok1, ρ1, w1, h1⟩
/-! ### argument lists, displays -/
theorem ea_nil : EA X g E [] (prt []) := PA_imp pa_nil fun σ H Q hq => tX_ret (v := ([] : List V)) hq fun _ _ _ => .nil
def consA (fa : P D) (fr : P (List D)) : P (List D) := bnd fa fun x => bnd fr fun xs => prt (x :: xs)
theorem ea_cons {fr : P (List D)} (ha : EV X g E e fa) (hr : EA X g E es fr) (hs : starEach (e :: es) X.env = (false, eval e X.env) :: starEach es X.env := by rfl) : EA X g E (e :: es) (consA fa fr) := by
  refine PA_imp (pa_cons ha hr hs) fun σ H Q hq => ?_
  obtain ⟨ok, ρ, w, h⟩ := hq
  refine ⟨ok, ρ, w, (Rs.bnd (RA := relD X.K) h).mono fun v1 H1 hq => ?_⟩
  obtain ⟨ok1, ρ1, x, w1, f1, r1, h1⟩ := hq
  refine ⟨ok1, ρ1, w1, (Rs.bnd (RA := relA X.K) h1).mono fun v2 H2 hq => ?_⟩
  obtain ⟨ok2, ρ2, y, w2, f2, r2, h2⟩ := hq
  exact h2 _ H2 ok2 w2 Sx.refl (.cons (Rep.fr f2.fr r1) r2)
/-- the list is short enough -/
def fits (xs : List D) : Option (List D) := if xs.length ≤ sizeLine then some xs else none
theorem fits_eq {xs ys : List D} (h : fits xs = some ys) : ys = xs ∧ xs.length ≤ sizeLine := by
  unfold fits at h
  split at h
  · exact ⟨(Option.some.inj h).symm, by assumption⟩
  · cases h
theorem fits_of {xs : List D} (h : xs.length ≤ sizeLine) : fits xs = some xs := if_pos h
def mkT (f : P (List D)) : P D := bnd f fun xs => lft ((fits xs).map D.tup)
def mkL (f : P (List D)) : P R := bnd f fun xs => lft ((fits xs).map fun ys => .own (.lst ys))
theorem ev_tup {x1} {fr : P (List D)} (h : EA X g E es fr) : EV X g E (.Tuple es x1 pos) (mkT fr) := by
  refine PE_imp (pe_tup h) fun σ H Q hq => ?_
  obtain ⟨ok, ρ, w, h⟩ := hq
  refine ⟨ok, ρ, w, (Rs.bnd (RA := relA X.K) h).mono fun vs H1 hq => ?_⟩
  obtain ⟨ok1, ρ1, x, w1, f1, r1, h1⟩ := hq
  cases e : fits x with
  | none => rw [e] at h1; exact h1.elim
  | some y =>
    rw [e] at h1
    obtain ⟨rfl, hz⟩ := fits_eq e
    have r1 : Reps X.K ok1 H1 vs y := r1
    refine ⟨by rw [r1.length]; exact hz, fun p np => ?_⟩
    exact h1 _ _ ok1 (w1.new np) (Sx.new np) (.tup upd_same (r1.fr (fr_new np)))
theorem own_new {K : PySem.W.Frag} {ok : Addr → Prop} {H : Hp} {ρ : En} {σ : L2.St} {p : Addr} {o : HO} {d : D} (w : Wf K g ok ρ σ H) (n : H p = none) (h : OwnAt K (sub1 ok p) (upd H p o) p d) :
    relR K H (sub1 ok p) (upd H p o) ρ σ (.ref p) (.own d) := by
  refine ⟨p, rfl, h, fun z => z.2 rfl, n, fun j e hj z => ?_⟩
  obtain ⟨q, eq, r, _⟩ := w.own j e hj
  rw [z] at eq
  cases eq
  obtain ⟨u, hu, _⟩ := r.there
  rw [n] at hu
  cases hu
theorem er_lst {fr : P (List D)} (h : EA X g E es fr) : ER X g E (.List es pos) (mkL fr) := by
  refine PE_imp (pe_lst h) fun σ H Q hq => ?_
  obtain ⟨ok, ρ, w, h⟩ := hq
  refine ⟨ok, ρ, w, (Rs.bnd (RA := relA X.K) h).mono fun vs H1 hq => ?_⟩
  obtain ⟨ok1, ρ1, x, w1, f1, r1, h1⟩ := hq
  cases e : fits x with
  | none => rw [e] at h1; exact h1.elim
  | some y =>
    rw [e] at h1
    obtain ⟨rfl, hz⟩ := fits_eq e
    have r1 : Reps X.K ok1 H1 vs y := r1
    refine ⟨by rw [r1.length]; exact hz, fun p np => ?_⟩
    exact h1 _ _ (sub1 ok1 p) (w1.newO np) (Sx.newO np) (own_new w1 np ⟨vs, upd_same, r1.fr (fr_sub np)⟩)
end
end Pu
/-! Operations on trees. -/
namespace Pu
open PySem PySem.Spec PyProof.Rows L2 Kv
section
variable {K : PySem.W.Frag} {ok : Addr → Prop} {H : Hp}
/-- flat things -/
def flV : D → Option V
  | .non => some .non
  | .bl b => some (.bl b)
  | .int i => some (.int i)
  | .str x => some (.str x)
  | _ => none
def flVs : List D → Option (List V)
  | [] => some []
  | d :: ds => match flV d, flVs ds with
    | some v, some vs => some (v :: vs)
    | _, _ => none
theorem Rep.flat {v u : V} {d : D} (r : Rep K ok H v d) (h : flV d = some u) : v = u := by
  cases r <;> first | (cases h; rfl) | (cases h)
theorem flV_flat {u : V} {d : D} (h : flV d = some u) : flatV u = true := by
  cases d <;> first | (cases h; rfl) | (cases h)
theorem Reps.flat : ∀ {vs us : List V} {ds : List D}, Reps K ok H vs ds → flVs ds = some us → vs = us ∧ us.all flatV = true
  | _, _, _, .nil, h => by cases h; exact ⟨rfl, rfl⟩
  | _, _, _, .cons (d := d) (ds := ds) r t, h => by
    unfold flVs at h
    cases e1 : flV d with
    | none => rw [e1] at h; cases h
    | some v =>
      cases e2 : flVs ds with
      | none => rw [e1, e2] at h; cases h
      | some vs =>
        rw [e1, e2] at h
        cases h
        obtain ⟨h1, h2⟩ := t.flat e2
        rw [r.flat e1, h1]
        exact ⟨rfl, by rw [List.all_cons, flV_flat e1, h2]; rfl⟩
theorem Pk.lst {v : V} {ds : List D} (h : Pk K ok H v (.lst ds)) : ∃ a vs, v = .ref a ∧ H a = some (.lst vs) ∧ Reps K ok H vs ds := by
  rcases h with h | ⟨q, e, vs, h, r⟩
  · cases h with
    | lst h k r => exact ⟨_, _, rfl, h, r⟩
  · exact ⟨q, vs, e, h, r⟩
theorem Pk.dic {v : V} {ks : List Key} {ds : List D} (h : Pk K ok H v (.dic ks ds)) : ∃ a kvs, v = .ref a ∧ Rd H a (.dK kvs) ∧ kvs.map (·.1) = ks ∧ Reps K ok H (kvs.map (·.2)) ds := by
  rcases h with h | ⟨q, e, vs, h, k, r⟩
  · cases h with
    | dic h r => exact ⟨_, _, rfl, h.rd, rfl, r⟩
  · exact ⟨q, vs, e, .inl h, k, r⟩
theorem Pk.dct {v : V} {ks : List (List Key)} {ds : List D} (h : Pk K ok H v (.dct ks ds)) : ∃ a kvs, v = .ref a ∧ Rd H a (.dT kvs) ∧ kvs.map (·.1) = ks ∧ Reps K ok H (kvs.map (·.2)) ds := by
  rcases h with h | ⟨q, e, vs, h, k, r⟩
  · cases h with
    | dct h r => exact ⟨_, _, rfl, h.rd, rfl, r⟩
  · exact ⟨q, vs, e, .inl h, k, r⟩
theorem Pk.rep {v : V} {d : D} (h : Pk K ok H v d) (n1 : ∀ ds, d ≠ .lst ds) (n2 : ∀ ks ds, d ≠ .dic ks ds) (n3 : ∀ ks ds, d ≠ .dct ks ds) : Rep K ok H v d := by
  rcases h with h | ⟨q, e, o⟩
  · exact h
  · cases d with
    | lst ds => exact absurd rfl (n1 ds)
    | dic ks ds => exact absurd rfl (n2 ks ds)
    | dct ks ds => exact absurd rfl (n3 ks ds)
    | _ => exact o.elim
theorem Pk.int {v : V} {i : Int} (h : Pk K ok H v (.int i)) : v = .int i := by
  cases h.rep (fun _ z => by cases z) (fun _ _ z => by cases z) (fun _ _ z => by cases z); rfl
theorem Pk.str {v : V} {i : Str} (h : Pk K ok H v (.str i)) : v = .str i := by
  cases h.rep (fun _ z => by cases z) (fun _ _ z => by cases z) (fun _ _ z => by cases z); rfl
theorem Pk.tup {v : V} {ds : List D} (h : Pk K ok H v (.tup ds)) : ∃ a vs, v = .ref a ∧ H a = some (.tup vs) ∧ Reps K ok H vs ds := by
  cases h.rep (fun _ z => by cases z) (fun _ _ z => by cases z) (fun _ _ z => by cases z) with
  | tup h1 r => exact ⟨_, _, rfl, h1, r⟩
/-- the items of a list or tuple -/
def seqD : D → Option (List D)
  | .lst xs => some xs
  | .tup xs => some xs
  | .flst xs => some xs
  | .ftup xs => some xs
  | _ => none
theorem Pk.seq {v : V} {d : D} {xs : List D} (h : Pk K ok H v d) (e : seqD d = some xs) : ∃ a vs, v = .ref a ∧ (SqL K H a vs ∨ SqT K H a vs) ∧ Reps K ok H vs xs := by
  cases d with
  | lst ds => cases e; obtain ⟨a, vs, e1, e2, r⟩ := h.lst; exact ⟨a, vs, e1, .inl (.inl (.inl e2)), r⟩
  | tup ds => cases e; obtain ⟨a, vs, e1, e2, r⟩ := h.tup; exact ⟨a, vs, e1, .inr (.inl (.inl e2)), r⟩
  | flst ds =>
    cases e
    cases h.rep (fun _ z => by cases z) (fun _ _ z => by cases z) (fun _ _ z => by cases z) with
    | lstF h1 r => exact ⟨_, _, rfl, .inl h1.sq, r⟩
  | ftup ds =>
    cases e
    cases h.rep (fun _ z => by cases z) (fun _ _ z => by cases z) (fun _ _ z => by cases z) with
    | tupF h1 r => exact ⟨_, _, rfl, .inr h1.sq, r⟩
  | _ => cases e
/-! ### keys -/
def asKey : D → Option Key
  | .int i => some (Sum.inl i)
  | .str x => some (Sum.inr x)
  | _ => none
def asKeys : List D → Option (List Key)
  | [] => some []
  | d :: ds => match asKey d, asKeys ds with
    | some v, some vs => some (v :: vs)
    | _, _ => none
theorem Rep.key {v : V} {d : D} {k : Key} (r : Rep K ok H v d) (h : asKey d = some k) : v = kV k := by
  cases r <;> first | (cases h; rfl) | (cases h)
theorem Reps.keys : ∀ {vs : List V} {ds : List D} {ks : List Key}, Reps K ok H vs ds → asKeys ds = some ks → vs = ks.map kV
  | _, _, _, .nil, h => by cases h; rfl
  | _, _, _, .cons (d := d) (ds := ds) r t, h => by
    unfold asKeys at h
    cases e1 : asKey d with
    | none => rw [e1] at h; cases h
    | some v =>
      cases e2 : asKeys ds with
      | none => rw [e1, e2] at h; cases h
      | some vs =>
        rw [e1, e2] at h
        cases h
        rw [r.key e1, t.keys e2]
        rfl
def valD {κ : Type} [DecidableEq κ] : List κ → List D → κ → Option D
  | a :: ks, d :: vs, k => if a = k then some d else valD ks vs k
  | _, _, _ => none
theorem valD_rep {κ : Type} [DecidableEq κ] (k : κ) : ∀ {kvs : List (κ × V)} {ds : List D}, Reps K ok H (kvs.map (·.2)) ds →
    (∀ d, valD (kvs.map (·.1)) ds k = some d → ∃ v, valV kvs k = some v ∧ Rep K ok H v d) ∧ (valD (kvs.map (·.1)) ds k = none → valV kvs k = none)
  | [], _, .nil => ⟨fun d h => (nomatch h), fun _ => rfl⟩
  | p :: r, _, .cons (d := d) (ds := ds) h t => by
    obtain ⟨i1, i2⟩ := valD_rep k t
    by_cases e : p.1 = k
    · have e1 : valD ((p :: r).map (·.1)) (d :: ds) k = some d := if_pos e
      rw [valV_pos e, e1]
      exact ⟨fun d' z => by cases z; exact ⟨_, rfl, h⟩, fun z => by cases z⟩
    · have e1 : valD ((p :: r).map (·.1)) (d :: ds) k = valD (r.map (·.1)) ds k := if_neg e
      rw [valV_neg e, e1]
      exact ⟨i1, i2⟩
/-- what a dict holds at x -/
def getD : D → D → Option (Option D)
  | .dic ks vs, x => (asKey x).map fun k => valD ks vs k
  | .dct ks vs, .tup xs => (asKeys xs).map fun k => valD ks vs k
  | _, _ => none
theorem getD_rep {u v : V} {d x : D} {o : Option D} (h : Pk K ok H u d) (hx : Rep K ok H v x) (e : getD d x = some o) :
    ∃ a ov, u = .ref a ∧ DGet H a v ov ∧ (∀ y, o = some y → ∃ w, ov = some w ∧ Rep K ok H w y) ∧ ov.isSome = o.isSome := by
  cases d with
  | dic ks vs =>
    obtain ⟨a, kvs, rfl, e1, rfl, r⟩ := h.dic
    have e : (asKey x).map (fun k => valD (kvs.map (·.1)) vs k) = some o := e
    cases ek : asKey x with
    | none => rw [ek] at e; cases e
    | some k =>
      rw [ek] at e
      cases e
      obtain ⟨i1, i2⟩ := valD_rep k r
      refine ⟨a, valV kvs k, rfl, .inl ⟨kvs, k, e1, hx.key ek, rfl⟩, fun y hy => i1 y hy, ?_⟩
      cases q : valD (kvs.map (·.1)) vs k with
      | none => rw [i2 q]; show _ = (valD (kvs.map (·.1)) vs k).isSome; rw [q]; rfl
      | some y => obtain ⟨w, ew, _⟩ := i1 y q; rw [ew]; show _ = (valD (kvs.map (·.1)) vs k).isSome; rw [q]; rfl
  | dct ks vs =>
    obtain ⟨a, kvs, rfl, e1, rfl, r⟩ := h.dct
    cases hx with
    | tup ht rt =>
      rename_i b ws ds
      have e : (asKeys ds).map (fun k => valD (kvs.map (·.1)) vs k) = some o := e
      cases ek : asKeys ds with
      | none => rw [ek] at e; cases e
      | some k =>
        rw [ek] at e
        cases e
        obtain ⟨i1, i2⟩ := valD_rep k r
        refine ⟨a, valV kvs k, rfl, .inr ⟨kvs, k, b, e1, rfl, by rw [← rt.keys ek]; exact ht, rfl⟩, fun y hy => i1 y hy, ?_⟩
        cases q : valD (kvs.map (·.1)) vs k with
        | none => rw [i2 q]; show _ = (valD (kvs.map (·.1)) vs k).isSome; rw [q]; rfl
        | some y => obtain ⟨w, ew, _⟩ := i1 y q; rw [ew]; show _ = (valD (kvs.map (·.1)) vs k).isSome; rw [q]; rfl
    | _ => cases e
  | _ => cases e
end
section
variable {X : Cx}
/-! ### arithmetic -/
def opAdd : D → D → Option D
  | .int i, .int j => some (.int (i + j))
  | .str a, .str b => if a.length + b.length ≤ sizeLine then some (.str (a ++ b)) else none
  | .lst xs, .lst ys => if xs.length + ys.length ≤ sizeLine then some (.lst (xs ++ ys)) else none
  | .tup xs, .tup ys => if xs.isEmpty = false ∧ xs.length + ys.length ≤ sizeLine then some (.tup (xs ++ ys)) else none
  | _, _ => none
def rAddA (K : PySem.W.Frag) : R2 := fun x y H Q => rI0 (fun i j => .int (i + j)) x y H Q ∨ (∃ i j, x = .str i ∧ y = .str j ∧ i.length + j.length ≤ sizeLine ∧ Q (.str (i ++ j)) H) ∨ rCat x y H Q ∨ rCatT K x y H Q
theorem op_addA : OpR X (binaryOp .Add) (rAddA X.K) := op_add.or (op_add_str.or (op_cat.or op_catT))
theorem o2_add : Op2 X.K (rAddA X.K) opAdd := by
  intro g ρ σ ok H u v x y z Q w r1 r2 e q
  cases r1 with
  | int i =>
    cases y with
    | int j => cases e; exact .inl ⟨i, j, rfl, r2.int, q.at w (.int _)⟩
    | _ => cases e
  | str s =>
    cases y with
    | str t =>
      have e : (if s.length + t.length ≤ sizeLine then some (D.str (s ++ t)) else none) = some z := e
      split at e
      · cases e; exact .inr (.inl ⟨s, t, rfl, r2.str, by assumption, q.at w (.str _)⟩)
      · cases e
    | _ => cases e
  | lst h1 k1 t1 =>
    rename_i xs
    cases y with
    | lst ys =>
      have e : (if xs.length + ys.length ≤ sizeLine then some (D.lst (xs ++ ys)) else none) = some z := e
      split at e
      · cases e
        obtain ⟨b, ws, rfl, h2, t2⟩ := r2.lst
        refine .inr (.inr (.inl ⟨_, b, _, ws, rfl, rfl, h1, h2, ?_, fun p np => q.new w np fun kp ep f => .lst ep kp ((t1.app t2).fr f)⟩))
        rw [t1.length, t2.length]; assumption
      · cases e
    | _ => cases e
  | tup h1 t1 =>
    rename_i xs
    cases y with
    | tup ys =>
      have e : (if xs.isEmpty = false ∧ xs.length + ys.length ≤ sizeLine then some (D.tup (xs ++ ys)) else none) = some z := e
      split at e
      · rename_i hh
        cases e
        obtain ⟨b, ws, rfl, h2, t2⟩ := r2.tup
        refine .inr (.inr (.inr ⟨_, b, _, ws, rfl, rfl, .inl (.inl h1), .inl (.inl h2), (fun z => ?_), ?_, fun hz => ?_, fun _ p np => q.new w np fun kp ep f => .tup ep ((t1.app t2).fr f)⟩))
        · subst z
          cases t1
          exact absurd hh.1 (by decide)
        · rw [t1.length, t2.length]; exact hh.2
        · subst hz
          cases t2
          rw [List.append_nil] at q
          exact q.at w (.tup h1 t1)
      · cases e
    | _ => cases e
  | _ => cases y <;> cases e
def oI (C : Int → Int → Bool) (f : Int → Int → D) : D → D → Option D
  | .int i, .int j => if C i j = true then some (f i j) else none
  | _, _ => none
theorem o2_int {C : Int → Int → Prop} {C' : Int → Int → Bool} {G : Int → Int → V} {f : Int → Int → D} (hC : ∀ i j, C' i j = true → C i j) (hf : ∀ i j ok H, Rep X.K ok H (G i j) (f i j)) : Op2 X.K (rI C G) (oI C' f) := by
  intro g ρ σ ok H u v x y z Q w r1 r2 e q
  cases r1 with
  | int i =>
    cases y with
    | int j =>
      have e : (if C' i j = true then some (f i j) else none) = some z := e
      split at e
      · cases e; exact ⟨i, j, rfl, r2.int, hC i j (by assumption), q.at w (hf i j _ _)⟩
      · cases e
    | _ => cases e
  | _ => cases y <;> cases e
def oI0 (f : Int → Int → D) : D → D → Option D
  | .int i, .int j => some (f i j)
  | _, _ => none
theorem o2_int0 {G : Int → Int → V} {f : Int → Int → D} (hf : ∀ i j ok H, Rep X.K ok H (G i j) (f i j)) : Op2 X.K (rI0 G) (oI0 f) := by
  intro g ρ σ ok H u v x y z Q w r1 r2 e q
  cases r1 with
  | int i =>
    cases y with
    | int j => cases e; exact ⟨i, j, rfl, r2.int, q.at w (hf i j _ _)⟩
    | _ => cases e
  | _ => cases y <;> cases e
theorem Op2.or {r r' : R2} {o o' : D → D → Option D} (h : Op2 X.K r o) (h' : Op2 X.K r' o') : Op2 X.K (fun x y H Q => r x y H Q ∨ r' x y H Q) (fun x y => (o x y).orElse fun _ => o' x y) := by
  intro g ρ σ ok H u v x y z Q w r1 r2 e q
  have e : (o x y).orElse (fun _ => o' x y) = some z := e
  cases e1 : o x y with
  | none => rw [e1] at e; exact .inr (h' g ρ σ ok H u v x y z Q w r1 r2 e q)
  | some z' => rw [e1] at e; cases e; exact .inl (h g ρ σ ok H u v x y _ Q w r1 r2 e1 q)
def cMul (i j : Int) : Bool := decide ((-(2 ^ 64) < i ∧ i < 2 ^ 64) ∨ (-(2 ^ 64) < j ∧ j < 2 ^ 64))
def opMulI : D → D → Option D := oI cMul fun i j => .int (i * j)
/-- a list some times -/
def opRep : D → D → Option D
  | .lst xs, .int k => if -(2 ^ 63) ≤ k ∧ k < 2 ^ 63 ∧ xs.length * k.toNat ≤ sizeLine then some (.lst (List.replicate k.toNat xs).flatten) else none
  | _, _ => none
theorem Reps.rep {K : PySem.W.Frag} {ok : Addr → Prop} {H : Hp} {vs : List V} {ds : List D} (h : Reps K ok H vs ds) : ∀ n, Reps K ok H (List.replicate n vs).flatten (List.replicate n ds).flatten
  | 0 => .nil
  | n + 1 => by
    rw [List.replicate_succ, List.replicate_succ, List.flatten_cons, List.flatten_cons]
    exact h.app (Reps.rep h n)
theorem o2_rep : Op2 X.K rRep opRep := by
  intro g ρ σ ok H u v x y z Q w r1 r2 e q
  cases r1 with
  | lst h1 k1 t1 =>
    rename_i xs
    cases y with
    | int k =>
      have e : (if -(2 ^ 63) ≤ k ∧ k < 2 ^ 63 ∧ xs.length * k.toNat ≤ sizeLine then some (D.lst (List.replicate k.toNat xs).flatten) else none) = some z := e
      split at e
      · cases e
        rename_i hh
        refine ⟨_, k, _, rfl, r2.int, h1, hh.1, hh.2.1, by rw [t1.length]; exact hh.2.2, fun p np => q.new w np fun kp ep f => .lst ep kp ((t1.rep _).fr f)⟩
      · cases e
    | _ => cases e
  | _ => cases y <;> cases e
def opMul (x y : D) : Option D := (opMulI x y).orElse fun _ => opRep x y
theorem op_mulA : OpR X (binaryOp .Mult) (fun x y H Q => rI CMul (fun i j => .int (i * j)) x y H Q ∨ rRep x y H Q) := op_mul.or op_rep
theorem o2_mul : Op2 X.K (fun x y H Q => rI CMul (fun i j => .int (i * j)) x y H Q ∨ rRep x y H Q) opMul :=
  (o2_int (C := CMul) (C' := cMul) (fun i j h => (of_decide_eq_true h : (-(2 ^ 64) < i ∧ i < 2 ^ 64) ∨ (-(2 ^ 64) < j ∧ j < 2 ^ 64))) fun _ _ _ _ => .int _).or o2_rep
def opSub : D → D → Option D := oI0 fun i j => .int (i - j)
theorem o2_sub : Op2 X.K (rI0 fun i j => .int (i - j)) opSub := o2_int0 fun _ _ _ _ => .int _
def opMod : D → D → Option D := oI (fun _ j => decide (0 < j)) fun i j => .int (i % j)
theorem o2_mod : Op2 X.K (rI (fun _ j => 0 < j) fun i j => .int (i % j)) opMod := o2_int (fun i j h => of_decide_eq_true h) fun _ _ _ _ => .int _
def opFdiv : D → D → Option D := oI (fun _ j => decide (0 < j ∧ j < 1073741824)) fun i j => .int (i / j)
theorem o2_fdiv : Op2 X.K (rI CDiv fun i j => .int (i / j)) opFdiv := o2_int (fun i j h => (of_decide_eq_true h : 0 < j ∧ j < 1073741824)) fun _ _ _ _ => .int _
def opPow : D → D → Option D := oI (fun i j => decide (0 ≤ j ∧ j ≤ 1000000 ∧ i.natAbs < 2 ^ 64)) fun i j => .int (i ^ j.toNat)
theorem o2_pow : Op2 X.K (rI CPow fun i j => .int (i ^ j.toNat)) opPow := o2_int (fun i j h => (of_decide_eq_true h : 0 ≤ j ∧ j ≤ 1000000 ∧ i.natAbs < 2 ^ 64)) fun _ _ _ _ => .int _
def opLt : D → D → Option D := oI0 fun i j => .bl (decide (i < j))
theorem o2_lt : Op2 X.K (rI0 fun i j => .bl (decide (i < j))) opLt := o2_int0 fun _ _ _ _ => .bl _
def opLe : D → D → Option D := oI0 fun i j => .bl (decide (i ≤ j))
theorem o2_le : Op2 X.K (rI0 fun i j => .bl (decide (i ≤ j))) opLe := o2_int0 fun _ _ _ _ => .bl _
def opGt : D → D → Option D := oI0 fun i j => .bl (decide (j < i))
theorem o2_gt : Op2 X.K (rI0 fun i j => .bl (decide (j < i))) opGt := o2_int0 fun _ _ _ _ => .bl _
def opGe : D → D → Option D := oI0 fun i j => .bl (decide (j ≤ i))
theorem o2_ge : Op2 X.K (rI0 fun i j => .bl (decide (j ≤ i))) opGe := o2_int0 fun _ _ _ _ => .bl _
/-! ### is None -/
def isN : D → Bool
  | .non => true
  | _ => false
def opIs : D → D → Option D
  | x, .non => some (.bl (isN x))
  | _, _ => none
def opIsNot : D → D → Option D
  | x, .non => some (.bl (!isN x))
  | _, _ => none
theorem Rep.isN {K : PySem.W.Frag} {ok : Addr → Prop} {H : Hp} {v : V} {d : D} (r : Rep K ok H v d) : decide (v = V.non) = Pu.isN d := by
  cases r <;> first | rfl | exact decide_eq_false (fun z => by cases z)
theorem Pk.non {K : PySem.W.Frag} {ok : Addr → Prop} {H : Hp} {v : V} (h : Pk K ok H v .non) : v = .non := by
  cases h.rep (fun _ z => by cases z) (fun _ _ z => by cases z) (fun _ _ z => by cases z); rfl
theorem o2_is : Op2 X.K (fun x y H Q => y = .non ∧ Q (.bl (decide (x = .non))) H) opIs := by
  intro g ρ σ ok H u v x y z Q w r1 r2 e q
  cases y with
  | non => cases e; exact ⟨r2.non, by rw [r1.isN]; exact q.at w (.bl _)⟩
  | _ => cases e
theorem o2_isNot : Op2 X.K (fun x y H Q => y = .non ∧ Q (.bl (!decide (x = .non))) H) opIsNot := by
  intro g ρ σ ok H u v x y z Q w r1 r2 e q
  cases y with
  | non => cases e; exact ⟨r2.non, by rw [r1.isN]; exact q.at w (.bl _)⟩
  | _ => cases e
/-! ### in -/
def inD (x : D) : D → Option Bool
  | .str t => match x with
    | .str s => some (!(Builtin.Str.occurrences t s 0 t.length 1).isEmpty)
    | _ => none
  | .dic ks vs => (getD (.dic ks vs) x).map (·.isSome)
  | .dct ks vs => (getD (.dct ks vs) x).map (·.isSome)
  | d => match seqD d, flV x with
    | some xs, some u => (flVs xs).map fun us => inV u us
    | _, _ => none
def rInA (K : PySem.W.Frag) (neg : Bool) : R2 := fun x y H Q => (∃ i j, x = .str i ∧ y = .str j ∧ Q (.bl (if neg then !(!(Builtin.Str.occurrences j i 0 j.length 1).isEmpty) else (!(Builtin.Str.occurrences j i 0 j.length 1).isEmpty))) H) ∨
  (∃ a o, y = .ref a ∧ DGet H a x o ∧ Q (.bl (if neg then !o.isSome else o.isSome)) H) ∨ rIn K neg x y H Q
theorem op_in_dict (hu : X.A.units + 1 < cLine) : OpR X (compareOp .In) (fun x y H Q => ∃ a o, y = .ref a ∧ DGet H a x o ∧ Q (.bl o.isSome) H) := by
  intro pins s σ H x y v u Q I rx ry h
  obtain ⟨a, o, rfl, g, q⟩ := h
  cases ry
  exact d_in hu I g rx fun s3 I3 => ⟨.bl o.isSome, H, I3, rfl, q⟩
theorem op_notIn_dict (hu : X.A.units + 1 < cLine) : OpR X (compareOp .NotIn) (fun x y H Q => ∃ a o, y = .ref a ∧ DGet H a x o ∧ Q (.bl (!o.isSome)) H) := by
  intro pins s σ H x y v u Q I rx ry h
  obtain ⟨a, o, rfl, g, q⟩ := h
  cases ry
  exact d_notIn hu I g rx fun s3 I3 => ⟨.bl (!o.isSome), H, I3, rfl, q⟩
theorem op_inA (hu : X.A.units + 1 < cLine) : OpR X (compareOp .In) (rInA X.K false) := op_in_str.or ((op_in_dict hu).or op_in_seq)
theorem op_notInA (hu : X.A.units + 1 < cLine) : OpR X (compareOp .NotIn) (rInA X.K true) := op_notin_str.or ((op_notIn_dict hu).or op_notIn_seq)
def opIn (x y : D) : Option D := (inD x y).map D.bl
def opNotIn (x y : D) : Option D := (inD x y).map fun b => D.bl (!b)
theorem o2_inN (neg : Bool) : Op2 X.K (rInA X.K neg) (fun x y => (inD x y).map fun b => D.bl (if neg then !b else b)) := by
  intro g ρ σ ok H u v x y z Q w r1 r2 e q
  have e : (inD x y).map (fun b => D.bl (if neg then !b else b)) = some z := e
  cases eb : inD x y with
  | none => rw [eb] at e; cases e
  | some b =>
    rw [eb] at e
    cases e
    have seq : ∀ xs, seqD y = some xs → (∃ u', flV x = some u' ∧ ∃ us, flVs xs = some us ∧ b = inV u' us) → rInA X.K neg u v H Q := fun xs es hh => by
      obtain ⟨u', e1, us, e2, rfl⟩ := hh
      obtain ⟨a, vs, rfl, sq, rp⟩ := r2.seq es
      obtain ⟨rfl, fl⟩ := rp.flat e2
      have e0 := r1.flat e1
      subst e0
      exact .inr (.inr ⟨a, vs, rfl, sq, flV_flat e1, fl, q.at w (.bl _)⟩)
    have dct : getD y x = getD y x → ∀ o, getD y x = some o → b = o.isSome → rInA X.K neg u v H Q := fun _ o eo hb => by
      obtain ⟨a, ov, rfl, dg, _, hs⟩ := getD_rep r2 r1 eo
      refine .inr (.inl ⟨a, ov, rfl, dg, ?_⟩)
      rw [hs, ← hb]
      exact q.at w (.bl _)
    have fl : ∀ xs, (match some xs, flV x with
      | some xs, some u => (flVs xs).map fun us => inV u us
      | _, _ => none) = some b → ∃ u', flV x = some u' ∧ ∃ us, flVs xs = some us ∧ b = inV u' us := fun xs hh => by
      cases e1 : flV x with
      | none => rw [e1] at hh; cases hh
      | some u' =>
        rw [e1] at hh
        cases e2 : flVs xs with
        | none => simp only [e2] at hh; cases hh
        | some us => simp only [e2] at hh; cases hh; exact ⟨u', rfl, us, rfl, rfl⟩
    cases y with
    | str t =>
      cases r1 with
      | str s => cases eb; exact .inl ⟨s, t, rfl, r2.str, q.at w (.bl _)⟩
      | _ => cases eb
    | dic ks vs =>
      have eb : (getD (.dic ks vs) x).map (·.isSome) = some b := eb
      cases eo : getD (.dic ks vs) x with
      | none => rw [eo] at eb; cases eb
      | some o => rw [eo] at eb; cases eb; exact dct rfl o eo rfl
    | dct ks vs =>
      have eb : (getD (.dct ks vs) x).map (·.isSome) = some b := eb
      cases eo : getD (.dct ks vs) x with
      | none => rw [eo] at eb; cases eb
      | some o => rw [eo] at eb; cases eb; exact dct rfl o eo rfl
    | lst xs => exact seq xs rfl (fl xs eb)
    | tup xs => exact seq xs rfl (fl xs eb)
    | flst xs => exact seq xs rfl (fl xs eb)
    | ftup xs => exact seq xs rfl (fl xs eb)
    | _ => cases eb
theorem o2_in : Op2 X.K (rInA X.K false) opIn := o2_inN false
theorem o2_notIn : Op2 X.K (rInA X.K true) opNotIn := o2_inN true
/-! ### a[i] -/
def ixD : D → D → Option D
  | .str z, .int i => if z.length ≤ sizeLine then (atI z.cps.toList i).map fun c => .str ⟨#[c]⟩ else none
  | .dic ks vs, x => (getD (.dic ks vs) x).bind id
  | .dct ks vs, x => (getD (.dct ks vs) x).bind id
  | d, .int i => (seqD d).bind fun xs => atI xs i
  | _, _ => none
def rIxA (K : PySem.W.Frag) : R2 := fun x y H Q => rIxL K x y H Q ∨ rIxT K x y H Q ∨ rIxS x y H Q ∨ ∃ a v, x = .ref a ∧ DGet H a y (some v) ∧ Q v H
theorem ix_dict (hu : X.A.units + 1 < cLine) : IxR X (fun x y H Q => ∃ a v, x = .ref a ∧ DGet H a y (some v) ∧ Q v H) := by
  intro value slice pins s σ H x y v u Q I rx ry h hs
  obtain ⟨a, w, rfl, g, q⟩ := h
  cases rx
  exact tail_any (dict_typeIs I g) PySem.F.slot_dict_getitem.lookup (d_getItem hu I g ry fun w' s3 I3 rw' => ⟨w, H, I3, rw', q⟩) hs
theorem ix_all (hu : X.A.units + 1 < cLine) : IxR X (rIxA X.K) := ix_list.or (ix_tup.or (ix_str.or (ix_dict hu)))
theorem Reps.atI {K : PySem.W.Frag} {ok : Addr → Prop} {H : Hp} {vs : List V} {ds : List D} {i : Int} {d : D} (r : Reps K ok H vs ds) (h : L2.atI ds i = some d) : ∃ v, L2.atI vs i = some v ∧ Rep K ok H v d := by
  unfold L2.atI at h ⊢
  rw [r.length]
  cases e : ixN ds.length i with
  | none => rw [e] at h; cases h
  | some j =>
    rw [e] at h
    obtain ⟨v, ev, rv⟩ := r.getD h
    exact ⟨v, ev, rv⟩
theorem ixD_ok {K : PySem.W.Frag} {g : Gx} {ρ : En} {σ : L2.St} {ok : Addr → Prop} {H : Hp} {u v : V} {x y z : D} {Q : VK} (w : Wf K g ok ρ σ H) (r1 : Pk K ok H u x) (r2 : Rep K ok H v y) (e : ixD x y = some z) (q : Can K g ρ σ ok H z Q) : rIxA K u v H Q := by
  have seq : ∀ xs i, seqD x = some xs → y = .int i → atI xs i = some z → rIxA K u v H Q := fun xs i es ey ea => by
    subst ey
    cases r2
    obtain ⟨a, vs, rfl, sq, rp⟩ := r1.seq es
    obtain ⟨z', ez, rz⟩ := rp.atI ea
    rcases sq with sq | sq
    · exact .inl ⟨a, vs, i, z', rfl, rfl, sq, ez, q.at w rz⟩
    · exact .inr (.inl ⟨a, vs, i, z', rfl, rfl, sq, ez, q.at w rz⟩)
  have dct : ∀ o, getD x y = some o → o = some z → rIxA K u v H Q := fun o eo hz => by
    obtain ⟨a, ov, rfl, dg, hh, _⟩ := getD_rep r1 r2 eo
    obtain ⟨w', rfl, rw'⟩ := hh z hz
    exact .inr (.inr (.inr ⟨a, w', rfl, dg, q.at w rw'⟩))
  cases x with
  | str s =>
    cases y with
    | int i =>
      cases r2
      have e : (if s.length ≤ sizeLine then (atI s.cps.toList i).map (fun c => D.str ⟨#[c]⟩) else none) = some z := e
      split at e
      · cases ea : atI s.cps.toList i with
        | none => rw [ea] at e; cases e
        | some c => rw [ea] at e; cases e; exact .inr (.inr (.inl ⟨s, i, c, r1.str, rfl, by assumption, ea, q.at w (.str _)⟩))
      · cases e
    | _ => cases e
  | dic ks vs =>
    have e : (getD (.dic ks vs) y).bind id = some z := e
    cases eo : getD (.dic ks vs) y with
    | none => rw [eo] at e; cases e
    | some o => rw [eo] at e; exact dct o eo e
  | dct ks vs =>
    have e : (getD (.dct ks vs) y).bind id = some z := e
    cases eo : getD (.dct ks vs) y with
    | none => rw [eo] at e; cases e
    | some o => rw [eo] at e; exact dct o eo e
  | lst xs =>
    cases y with
    | int i => exact seq xs i rfl rfl e
    | _ => cases e
  | tup xs =>
    cases y with
    | int i => exact seq xs i rfl rfl e
    | _ => cases e
  | flst xs =>
    cases y with
    | int i => exact seq xs i rfl rfl e
    | _ => cases e
  | ftup xs =>
    cases y with
    | int i => exact seq xs i rfl rfl e
    | _ => cases e
  | _ => cases y <;> cases e
variable {g : Gx} {E : Wx} {a b c e : Expr} {pos : Pos} {fa fb fc : P D}
theorem ev_ix (hu : X.A.units + 1 < cLine) (ha : EV X g E a fa) (hb : EV X g E b fb) (hs : PlainIx b) : EV X g E (.Subscript a b pos) (op2 ixD fa fb) := by
  refine PE_imp (pe_ix (ix_all hu) ha hb hs) fun σ H Q hq => ?_
  obtain ⟨ok, ρ, w, h⟩ := hq
  refine ⟨ok, ρ, w, (Rs.bnd (RA := relD X.K) h).mono fun v1 H1 hq => ?_⟩
  obtain ⟨ok1, ρ1, x, w1, f1, r1, h1⟩ := hq
  refine ⟨ok1, ρ1, w1, (Rs.bnd (RA := relD X.K) h1).mono fun v2 H2 hq => ?_⟩
  obtain ⟨ok2, ρ2, y, w2, f2, r2, h2⟩ := hq
  unfold lft at h2
  cases ez : ixD x y with
  | none => rw [ez] at h2; exact h2.elim
  | some z => rw [ez] at h2; exact ixD_ok w2 (.inl (Rep.fr f2.fr r1)) r2 ez h2
/-- x[i], x a name -/
def ixN' (i : Nat) (fb : P D) : P D := bnd (pk i) fun _ => bnd fb fun y => bnd (pk i) fun x => lft (ixD x y)
theorem ev_ixN {i : Nat} {x : Str} {p : Pos} (hu : X.A.units + 1 < cLine) (hN : X.N[i]? = some x) (hv : Vis X.env.scope x) (hb : EV X g E b fb) (hs : PlainIx b) (hd : (x == ("__debug__" : Str)) = false := by decide) (hcd : (x == ("__classdict__" : Str)) = false := by decide) :
    EV X g E (.Subscript (.Name x p) b pos) (ixN' i fb) := by
  refine PE_imp (pe_ix (ix_all hu) (pe_var hN hv hd hcd) hb hs) fun σ H Q hq => ?_
  obtain ⟨ok, ρ, w, h⟩ := hq
  unfold ixN' at h
  cases e : pk i ρ with
  | none => unfold bnd at h; rw [e] at h; exact h.elim
  | some t =>
    obtain ⟨d, rfl, hi⟩ := pk_inv e
    rw [bnd_ok e] at h
    obtain ⟨v, ev, _⟩ := pk_wf w hi
    refine ⟨v, ev, ok, ρ, w, (Rs.bnd (RA := relD X.K) h).mono fun v2 H2 hq => ?_⟩
    obtain ⟨ok2, ρ2, y, w2, f2, r2, h2⟩ := hq
    cases e2 : pk i ρ2 with
    | none => unfold bnd at h2; rw [e2] at h2; exact h2.elim
    | some t2 =>
      obtain ⟨d2, rfl, hi2⟩ := pk_inv e2
      rw [bnd_ok e2] at h2
      obtain ⟨v2', ev2, r0⟩ := pk_wf w2 hi2
      rw [ev] at ev2
      cases ev2
      unfold lft at h2
      cases ez : ixD d2 y with
      | none => rw [ez] at h2; exact h2.elim
      | some z => rw [ez] at h2; exact ixD_ok w2 r0 r2 ez h2
/-! ### x.f -/
def fldD (C : Addr) (f : Str) : D → Option D
  | .obj C' ns vs => if C' = C then valD ns vs f else none
  | _ => none
theorem lookup_valV (f : Str) : ∀ fs : List (Str × V), fs.lookup f = valV fs f
  | [] => rfl
  | p :: r => by
    obtain ⟨k, v⟩ := p
    rw [List.lookup_cons]
    by_cases e : k = f
    · subst e
      rw [beq_self_eq_true, valV_pos rfl]
    · rw [beq_eq_false_iff_ne.mpr (fun z => e z.symm), valV_neg e]
      exact lookup_valV f r
theorem ev_fld {C : Addr} {f : Str} (c : Cls X.K C) (n : NoAttr X.K C f) (ha : EV X g E a fa) (hb : attributeBase a f X.env (eval a X.env) = eval a X.env := by rfl) : EV X g E (.Attribute a f pos) (bnd fa fun x => lft (fldD C f x)) := by
  refine PE_imp (pe_fld ha hb) fun σ H Q hq => ?_
  obtain ⟨ok, ρ, w, h⟩ := hq
  refine ⟨ok, ρ, w, (Rs.bnd (RA := relD X.K) h).mono fun v1 H1 hq => ?_⟩
  obtain ⟨ok1, ρ1, x, w1, f1, r1, h1⟩ := hq
  unfold lft at h1
  have r1 : Rep X.K ok1 H1 v1 x := r1
  cases r1 with
  | obj ho rs =>
    rename_i a' C' dx fs ds
    by_cases e : C' = C
    · subst e
      have ef : fldD C' f (.obj C' (fs.map (·.1)) ds) = valD (fs.map (·.1)) ds f := if_pos rfl
      rw [ef] at h1
      obtain ⟨i1, i2⟩ := valD_rep f rs
      cases ez : valD (fs.map (·.1)) ds f with
      | none => rw [ez] at h1; exact h1.elim
      | some z =>
        rw [ez] at h1
        obtain ⟨v, ev, rv⟩ := i1 z ez
        exact ⟨_, C', dx, fs, v, rfl, ho, c, n, by rw [lookup_valV]; exact ev, h1 v H1 ok1 w1 Sx.refl rv⟩
    · have ef : fldD C f (.obj C' (fs.map (·.1)) ds) = none := if_neg e
      rw [ef] at h1
      exact h1.elim
  | _ => exact h1.elim
end
end Pu
/-! Walks, targets, comprehensions. -/
namespace Pu
open PySem PySem.Spec PyProof.Rows L2 Kv
/-! ### targets -/
inductive Tg where
  | one (i : Nat)
  | many (is : List Nat)
def Tg.ix : Tg → List Nat
  | .one i => [i]
  | .many is => is
def sets : List Nat → List D → En → Option En
  | [], [], ρ => some ρ
  | i :: is, d :: ds, ρ => sets is ds (ρ.set i (.val d))
  | _, _, _ => none
def gset : Tg → D → En → Option En
  | .one i, d, ρ => some (ρ.set i (.val d))
  | .many is, .tup ds, ρ => sets is ds ρ
  | _, _, _ => none
def TgOk (K : PySem.W.Frag) (gt : TG) (T : Tg) : Prop := ∀ (g : Gx) (ok : Addr → Prop) (ρ : En) (σ : L2.St) (H : Hp) (v : V) (d : D) (ρ' : En) (Q : L2.St → Hp → Prop), Wf K g ok ρ σ H → Rep K ok H v d → gset T d ρ = some ρ' →
  (∀ σ', Wf K g ok ρ' σ' H → σ'.length = σ.length → (∀ k, k ∉ T.ix → σ'[k]? = σ[k]?) → Q σ' H) → gt v σ H Q
theorem tg_one {K : PySem.W.Frag} {i : Nat} : TgOk K (gName i) (.one i) := by
  intro g ok ρ σ H v d ρ' Q w r e q
  cases e
  refine q _ (w.set r) (List.length_set ..) fun k hk => ?_
  rw [List.getElem?_set_ne (fun z => hk (by rw [z]; exact List.mem_singleton.mpr rfl))]
/-- names in a row -/
def gNames : List Nat → TGs
  | [] => gNil
  | i :: is => gCons (gName i) (gNames is)
theorem gNames_ok {K : PySem.W.Frag} : ∀ (is : List Nat) (g : Gx) (ok : Addr → Prop) (ρ : En) (σ : L2.St) (H : Hp) (vs : List V) (ds : List D) (ρ' : En) (Q : L2.St → Hp → Prop), Wf K g ok ρ σ H → Reps K ok H vs ds → sets is ds ρ = some ρ' →
    (∀ σ', Wf K g ok ρ' σ' H → σ'.length = σ.length → (∀ k, k ∉ is → σ'[k]? = σ[k]?) → Q σ' H) → gNames is vs σ H Q
  | [], g, ok, ρ, σ, H, vs, ds, ρ', Q, w, r, e, q => by
    cases r with
    | nil => cases e; exact ⟨rfl, q σ w rfl fun _ _ => rfl⟩
    | cons _ _ => cases e
  | i :: is, g, ok, ρ, σ, H, vs, ds, ρ', Q, w, r, e, q => by
    cases r with
    | nil => cases e
    | cons r1 rr =>
      refine ⟨_, _, rfl, ?_⟩
      refine gNames_ok is g ok _ _ H _ _ ρ' Q (w.set r1) rr e fun σ' w' hl hk => q σ' w' (hl.trans (List.length_set ..)) fun k hk2 => ?_
      rw [hk k (fun z => hk2 (List.mem_cons_of_mem _ z)), List.getElem?_set_ne (fun z => hk2 (by rw [z]; exact List.mem_cons_self ..))]
theorem sets_len : ∀ {is : List Nat} {ds : List D} {ρ ρ' : En}, sets is ds ρ = some ρ' → is.length = ds.length
  | [], [], _, _, _ => rfl
  | i :: is, d :: ds, ρ, ρ', h => congrArg (· + 1) (sets_len (is := is) h)
  | [], _ :: _, _, _, h => by cases h
  | _ :: _, [], _, _, h => by cases h
theorem tg_many {K : PySem.W.Frag} {is : List Nat} : TgOk K (gTup K is.length (gNames is)) (.many is) := by
  intro g ok ρ σ H v d ρ' Q w r e q
  cases r with
  | tup h rs => exact ⟨_, _, rfl, .inl (.inl h), by rw [rs.length]; exact (sets_len e).symm, gNames_ok is g ok ρ σ H _ _ ρ' Q w rs e q⟩
  | _ => cases e
/-! ### walks -/
/-- the iterator J goes over ds, as long as the names in L hold what they held -/
def WkOk (K : PySem.W.Frag) (g : Gx) (L : List Nat) (σ : L2.St) (ρ : En) (J : It) (ds : List D) (ok : Addr → Prop) (H : Hp) : Prop :=
  ∀ (ok2 : Addr → Prop) (ρ2 : En) (σ2 : L2.St) (H2 : Hp), Wf K g ok2 ρ2 σ2 H2 → Fr ok H ok2 H2 → (∀ l ∈ L, ρ2[l]? = ρ[l]? ∧ σ2[l]? = σ[l]?) →
    (∀ i, i < ds.length → J.go i H2) ∧ J.stop ds.length H2 ∧ ∀ i d x H3, ds[i]? = some d → J.yld i H2 x H3 → (H3 = H2 ∨ ∃ p o, H2 p = none ∧ H3 = upd H2 p o) ∧ Rep K ok2 H3 x d
def tI (K : PySem.W.Frag) (g : Gx) (E : Wx) (L : List Nat) (f : P (List D)) : TI := fun σ H R => ∃ ok ρ, Wf K g ok ρ σ H ∧
  match f ρ with
  | none => False
  | some (.ok ds ρ') => ∀ J H' ok', Wf K g ok' ρ' σ H' → Sx σ ρ ok H ρ' ok' H' → WkOk K g L σ ρ' J ds ok' H' → R J H'
  | some (.er c ns ds ρ') => ∀ dx fs H' ok', Wf K g ok' ρ' σ H' → Sx σ ρ ok H ρ' ok' H' → H' dx = some (.xd fs) → fs.map (·.1) = ns → Reps K ok' H' (fs.map (·.2)) ds → E σ c (some dx) H'
abbrev EI (X : Cx) (g : Gx) (E : Wx) (L : List Nat) (tg e : Expr) (f : P (List D)) : Prop := PI X tg e (tI X.K g E L f)
section
variable {X : Cx} {g : Gx} {E : Wx} {tg a b c e : Expr} {pos : Pos} {fa fb fc : P D}
theorem PI_imp {t t' : TI} (h : PI X tg e t) (q : ∀ σ H R, t' σ H R → t σ H R) : PI X tg e t' := ⟨fun pins s σ H R I z => h.run pins s σ H R I (q σ H R z)⟩
/-- two roads to one walk -/
theorem PI_or {w1 w2 : TI} (h1 : PI X tg e w1) (h2 : PI X tg e w2) : PI X tg e (fun σ H R => w1 σ H R ∨ w2 σ H R) := ⟨fun pins s σ H R I z => z.elim (fun z => h1.run pins s σ H R I z) fun z => h2.run pins s σ H R I z⟩
/-- a walk by a list's or a tuple's items -/
def isLst : D → Bool
  | .lst _ => true
  | .flst _ => true
  | _ => false
def seqP (f : P D) : P (List D) := bnd f fun d => lft (seqD d)
theorem wk_lst {K : PySem.W.Frag} {L : List Nat} {σ : L2.St} {ρ : En} {ok : Addr → Prop} {H : Hp} {p : Addr} {ds : List D} (h : ∀ ok2 ρ2 σ2 H2, Wf K g ok2 ρ2 σ2 H2 → Fr ok H ok2 H2 → (∀ l ∈ L, ρ2[l]? = ρ[l]? ∧ σ2[l]? = σ[l]?) → ∃ vs, SqL K H2 p vs ∧ Reps K ok2 H2 vs ds) :
    WkOk K g L σ ρ (Itl K p) ds ok H := by
  intro ok2 ρ2 σ2 H2 w2 f2 k2
  obtain ⟨vs, sq, r⟩ := h ok2 ρ2 σ2 H2 w2 f2 k2
  refine ⟨fun i hi => ?_, ⟨vs, sq, Nat.le_of_eq r.length⟩, fun i d x H3 hd y => ?_⟩
  · have hv : i < vs.length := by rw [r.length]; exact hi
    exact ⟨vs, vs[i], sq, List.getElem?_eq_getElem hv⟩
  · obtain ⟨rfl, y⟩ := y
    obtain ⟨d', e1, r1⟩ := r.get (y vs sq)
    rw [hd] at e1
    cases e1
    exact ⟨.inl rfl, r1⟩
theorem wk_tup {K : PySem.W.Frag} {L : List Nat} {σ : L2.St} {ρ : En} {ok : Addr → Prop} {H : Hp} {p : Addr} {ds : List D} (h : ∀ ok2 ρ2 σ2 H2, Wf K g ok2 ρ2 σ2 H2 → Fr ok H ok2 H2 → (∀ l ∈ L, ρ2[l]? = ρ[l]? ∧ σ2[l]? = σ[l]?) → ∃ vs, SqT K H2 p vs ∧ Reps K ok2 H2 vs ds) :
    WkOk K g L σ ρ (Itt K p) ds ok H := by
  intro ok2 ρ2 σ2 H2 w2 f2 k2
  obtain ⟨vs, sq, r⟩ := h ok2 ρ2 σ2 H2 w2 f2 k2
  refine ⟨fun i hi => ?_, ⟨vs, sq, Nat.le_of_eq r.length⟩, fun i d x H3 hd y => ?_⟩
  · have hv : i < vs.length := by rw [r.length]; exact hi
    exact ⟨vs, vs[i], sq, List.getElem?_eq_getElem hv⟩
  · obtain ⟨rfl, y⟩ := y
    obtain ⟨d', e1, r1⟩ := r.get (y vs sq)
    rw [hd] at e1
    cases e1
    exact ⟨.inl rfl, r1⟩
/-- what a value that is a list or tuple is walked by -/
theorem rep_walk {K : PySem.W.Frag} {L : List Nat} {σ : L2.St} {ρ : En} {ok : Addr → Prop} {H : Hp} {v : V} {d : D} {ds : List D} (r : Rep K ok H v d) (e : seqD d = some ds) :
    (∃ p, v = .ref p ∧ (∃ xs, SqL K H p xs) ∧ WkOk K g L σ ρ (Itl K p) ds ok H) ∨ (∃ p, v = .ref p ∧ (∃ xs, SqT K H p xs) ∧ WkOk K g L σ ρ (Itt K p) ds ok H) := by
  cases r with
  | lst h k t =>
    cases e
    refine .inl ⟨_, rfl, ⟨_, .inl (.inl h)⟩, wk_lst fun ok2 ρ2 σ2 H2 w2 f2 _ => ⟨_, .inl (.inl ((f2.keep _ _ h fun _ => k).same rfl)), t.fr f2⟩⟩
  | lstF h t =>
    cases e
    exact .inl ⟨_, rfl, ⟨_, h.sq⟩, wk_lst fun ok2 ρ2 σ2 H2 w2 f2 _ => ⟨_, (f2.fzL h).sq, t.fr f2⟩⟩
  | tup h t =>
    cases e
    exact .inr ⟨_, rfl, ⟨_, .inl (.inl h)⟩, wk_tup fun ok2 ρ2 σ2 H2 w2 f2 _ => ⟨_, .inl (.inl (f2.rd h fun z => z)), t.fr f2⟩⟩
  | tupF h t =>
    cases e
    exact .inr ⟨_, rfl, ⟨_, h.sq⟩, wk_tup fun ok2 ρ2 σ2 H2 w2 f2 _ => ⟨_, (f2.fzT h).sq, t.fr f2⟩⟩
  | _ => cases e
/-- by the items of what f gives -/
theorem Rs.toI {K : PySem.W.Frag} {σ : L2.St} {ρ : En} {ok : Addr → Prop} {H : Hp} {L : List Nat} {f : P D} {R : It → Hp → Prop} (w : Wf K g ok ρ σ H)
    (h : match seqP f ρ with
      | none => False
      | some (.ok ds ρ') => ∀ J H' ok', Wf K g ok' ρ' σ H' → Sx σ ρ ok H ρ' ok' H' → WkOk K g L σ ρ' J ds ok' H' → R J H'
      | some (.er c ns ds ρ') => ∀ dx fs H' ok', Wf K g ok' ρ' σ H' → Sx σ ρ ok H ρ' ok' H' → H' dx = some (.xd fs) → fs.map (·.1) = ns → Reps K ok' H' (fs.map (·.2)) ds → E σ c (some dx) H') :
    iList K (tX K g E (relD K) f) σ H R ∨ iTup K (tX K g E (relD K) f) σ H R := by
  unfold seqP at h
  cases e : f ρ with
  | none => rw [bnd_none e] at h; exact h.elim
  | some x =>
    cases x with
    | er c ns ds ρ' =>
      rw [bnd_er e] at h
      refine .inl ⟨ok, ρ, w, ?_⟩
      rw [e]
      exact h
    | ok d ρ' =>
      rw [bnd_ok e] at h
      cases ed : seqD d with
      | none => rw [ed] at h; exact h.elim
      | some ds =>
        rw [ed] at h
        have go : ∀ v H' ok', Wf K g ok' ρ' σ H' → Sx σ ρ ok H ρ' ok' H' → Rep K ok' H' v d → (∃ p, v = .ref p ∧ (∃ xs, SqL K H' p xs) ∧ R (Itl K p) H') ∨ (∃ p, v = .ref p ∧ (∃ xs, SqT K H' p xs) ∧ R (Itt K p) H') := fun v H' ok' w' s' r' => by
          rcases rep_walk (g := g) (L := L) (σ := σ) (ρ := ρ') r' ed with ⟨p, e1, e2, wk⟩ | ⟨p, e1, e2, wk⟩
          · exact .inl ⟨p, e1, e2, h _ H' ok' w' s' wk⟩
          · exact .inr ⟨p, e1, e2, h _ H' ok' w' s' wk⟩
        have left : isLst d = true → iList K (tX K g E (relD K) f) σ H R := fun hl => by
          refine ⟨ok, ρ, w, ?_⟩
          rw [e]
          intro v H' ok' w' s' r'
          cases d with
          | lst xs =>
            have r' : Rep K ok' H' v (.lst xs) := r'
            cases r' with
            | lst h1 k1 t1 =>
              cases ed
              exact ⟨_, rfl, ⟨_, .inl (.inl h1)⟩, h _ H' ok' w' s' (wk_lst fun ok2 ρ2 σ2 H2 w2 f2 _ => ⟨_, .inl (.inl ((f2.keep _ _ h1 fun _ => k1).same rfl)), t1.fr f2⟩)⟩
          | flst xs =>
            have r' : Rep K ok' H' v (.flst xs) := r'
            cases r' with
            | lstF h1 t1 =>
              cases ed
              exact ⟨_, rfl, ⟨_, h1.sq⟩, h _ H' ok' w' s' (wk_lst fun ok2 ρ2 σ2 H2 w2 f2 _ => ⟨_, (f2.fzL h1).sq, t1.fr f2⟩)⟩
          | _ => cases hl
        have right : isLst d = false → iTup K (tX K g E (relD K) f) σ H R := fun hl => by
          refine ⟨ok, ρ, w, ?_⟩
          rw [e]
          intro v H' ok' w' s' r'
          cases d with
          | tup xs =>
            have r' : Rep K ok' H' v (.tup xs) := r'
            cases r' with
            | tup h1 t1 =>
              cases ed
              exact ⟨_, rfl, ⟨_, .inl (.inl h1)⟩, h _ H' ok' w' s' (wk_tup fun ok2 ρ2 σ2 H2 w2 f2 _ => ⟨_, .inl (.inl (f2.rd h1 fun z => z)), t1.fr f2⟩)⟩
          | ftup xs =>
            have r' : Rep K ok' H' v (.ftup xs) := r'
            cases r' with
            | tupF h1 t1 =>
              cases ed
              exact ⟨_, rfl, ⟨_, h1.sq⟩, h _ H' ok' w' s' (wk_tup fun ok2 ρ2 σ2 H2 w2 f2 _ => ⟨_, (f2.fzT h1).sq, t1.fr f2⟩)⟩
          | lst xs => cases hl
          | flst xs => cases hl
          | _ => cases ed
        cases hl : isLst d with
        | true => exact .inl (left hl)
        | false => exact .inr (right hl)
theorem ei_seq (ha : EV X g E a fa) : EI X g E [] tg a (seqP fa) := by
  refine PI_imp (PI_or (pi_list ha) (pi_tup ha)) fun σ H R hq => ?_
  obtain ⟨ok, ρ, w, h⟩ := hq
  exact Rs.toI w h
/-- for x in NAME -/
theorem ei_name {i : Nat} {x : Str} (hN : X.N[i]? = some x) (hv : Vis X.env.scope x) (hd : (x == ("__debug__" : Str)) = false := by decide) (hcd : (x == ("__classdict__" : Str)) = false := by decide) : EI X g E [i] tg (.Name x pos) (seqP (pk i)) := by
  refine PI_imp (PI_or (pi_list (pe_var hN hv hd hcd)) (pi_tup (pe_var hN hv hd hcd))) fun σ H R hq => ?_
  obtain ⟨ok, ρ, w, h⟩ := hq
  unfold seqP at h
  cases e : pk i ρ with
  | none => rw [bnd_none e] at h; exact h.elim
  | some t =>
    obtain ⟨d, rfl, hi⟩ := pk_inv e
    rw [bnd_ok e] at h
    cases ed : seqD d with
    | none => rw [ed] at h; exact h.elim
    | some ds =>
      rw [ed] at h
      rcases hi with hi | hi
      · obtain ⟨v, ev, r⟩ := w.val i d hi
        rcases rep_walk (g := g) (L := [i]) (σ := σ) (ρ := ρ) r ed with ⟨p, e1, e2, wk⟩ | ⟨p, e1, e2, wk⟩
        · exact .inl ⟨v, ev, p, e1, e2, h _ H ok w Sx.refl wk⟩
        · exact .inr ⟨v, ev, p, e1, e2, h _ H ok w Sx.refl wk⟩
      · obtain ⟨q, eq, o, nk, _⟩ := w.own i d hi
        cases d with
        | lst xs =>
          cases ed
          obtain ⟨vs, hq, _⟩ := id o
          refine .inl ⟨_, eq, q, rfl, ⟨vs, .inl (.inl hq)⟩, h _ H ok w Sx.refl (wk_lst fun ok2 ρ2 σ2 H2 w2 f2 k2 => ?_)⟩
          obtain ⟨k3, k4⟩ := k2 i (List.mem_singleton.mpr rfl)
          obtain ⟨q2, eq2, o2, _⟩ := w2.own i _ (k3.trans hi)
          rw [k4, eq] at eq2
          cases eq2
          obtain ⟨vs2, h2, r2⟩ := o2
          exact ⟨vs2, .inl (.inl h2), r2⟩
        | _ => first | exact o.elim | cases ed
/-! ### what the block's own names are -/
theorem wipe_get {σ : L2.St} {k : Nat} : ∀ {vs : List Nat}, k ∉ vs → (wipe σ vs)[k]? = σ[k]?
  | [], _ => rfl
  | v :: vs, h => by
    unfold wipe
    rw [List.getElem?_set_ne (fun z => h (by rw [z]; exact List.mem_cons_self ..))]
    exact wipe_get fun z => h (List.mem_cons_of_mem _ z)
theorem wipe_in {σ : L2.St} {k : Nat} : ∀ {vs : List Nat}, k ∈ vs → k < σ.length → (wipe σ vs)[k]? = some none
  | [], h, _ => by cases h
  | v :: vs, h, hl => by
    unfold wipe
    by_cases e : v = k
    · subst e
      rw [List.getElem?_set_self (by rw [wipe_length]; exact hl)]
    · rw [List.getElem?_set_ne e]
      rcases List.mem_cons.mp h with z | z
      · exact absurd z.symm e
      · exact wipe_in z hl
theorem wipe_ext {σ τ : L2.St} {vs : List Nat} (hl : σ.length = τ.length) (h : ∀ k, k ∉ vs → σ[k]? = τ[k]?) : wipe σ vs = wipe τ vs := by
  refine List.ext_getElem? fun k => ?_
  by_cases hk : k ∈ vs
  · by_cases hz : k < σ.length
    · rw [wipe_in hk hz, wipe_in hk (by omega)]
    · rw [List.getElem?_eq_none (by rw [wipe_length]; omega), List.getElem?_eq_none (by rw [wipe_length]; omega)]
  · rw [wipe_get hk, wipe_get hk, h k hk]
def wipeE (ρ : En) : List Nat → En
  | [] => ρ
  | v :: vs => (wipeE ρ vs).set v .un
theorem wipeE_get {ρ : En} {k : Nat} : ∀ {vs : List Nat}, k ∉ vs → (wipeE ρ vs)[k]? = ρ[k]?
  | [], _ => rfl
  | v :: vs, h => by
    unfold wipeE
    rw [List.getElem?_set_ne (fun z => h (by rw [z]; exact List.mem_cons_self ..))]
    exact wipeE_get fun z => h (List.mem_cons_of_mem _ z)
theorem wipeE_in {ρ : En} {k : Nat} {s : Slot} : ∀ {vs : List Nat}, k ∈ vs → (wipeE ρ vs)[k]? = some s → s = .un
  | [], h, _ => by cases h
  | v :: vs, h, e => by
    unfold wipeE at e
    by_cases z : v = k
    · subst z
      exact get_set_self e
    · rw [List.getElem?_set_ne z] at e
      rcases List.mem_cons.mp h with y | y
      · exact absurd y.symm z
      · exact wipeE_in y e
theorem wipeE_length (ρ : En) : ∀ vs : List Nat, (wipeE ρ vs).length = ρ.length
  | [] => rfl
  | v :: vs => by unfold wipeE; rw [List.length_set, wipeE_length ρ vs]
theorem wipeE_some {ρ : En} {k : Nat} {s : Slot} {vs : List Nat} (h : (wipeE ρ vs)[k]? = some s) (ns : s ≠ .un) : ρ[k]? = some s ∧ k ∉ vs := by
  by_cases hk : k ∈ vs
  · exact absurd (wipeE_in hk h) ns
  · rw [wipeE_get hk] at h; exact ⟨h, hk⟩
/-- two sets of values that agree where something is known -/
theorem Wf.agree {K : PySem.W.Frag} {ok : Addr → Prop} {ρ : En} {σ τ : L2.St} {H : Hp} (w : Wf K g ok ρ σ H) (hl : τ.length = σ.length) (h : ∀ (k : Nat) (s : Slot), ρ[k]? = some s → s ≠ .un → τ[k]? = σ[k]?) : Wf K g ok ρ τ H :=
  ⟨hl.trans w.len, w.fc, w.h0, fun i d e => by rw [h i _ e (fun z => by cases z)]; exact w.val i d e, fun i d e => by rw [h i _ e (fun z => by cases z)]; exact w.own i d e,
    fun i j d e q h1 h2 e1 e2 => w.apart i j d e q h1 h2 (by rw [← h i _ h1 (fun z => by cases z)]; exact e1) (by rw [← h j _ h2 (fun z => by cases z)]; exact e2)⟩
theorem Wf.wipe {K : PySem.W.Frag} {ok : Addr → Prop} {ρ : En} {σ : L2.St} {H : Hp} : ∀ {vs : List Nat}, Wf K g ok ρ σ H → Wf K g ok (wipeE ρ vs) σ H
  | [], w => w
  | v :: vs, w => (Wf.wipe (vs := vs) w).drop
theorem wrs_wipe {ρ : En} {σ τ : L2.St} {vs : List Nat} {a : Addr} (ht : ∀ k, k ∉ vs → τ[k]? = σ[k]?) (h : wrs (wipeE ρ vs) τ a) : wrs ρ σ a := by
  obtain ⟨i, d, h1, h2⟩ := h
  obtain ⟨h3, h4⟩ := wipeE_some h1 (fun z => by cases z)
  exact ⟨i, d, h3, by rw [← ht i h4]; exact h2⟩
/-! ### [e for t in i if c] -/
def lcL (T : Tg) (ft : P Bool) (fe : P D) : List D → En → List D → Option (List D × En)
  | [], ρ, acc => some (acc, ρ)
  | d :: ds, ρ, acc => match gset T d ρ with
    | none => none
    | some ρ1 => match ft ρ1 with
      | some (.ok true ρ2) => match fe ρ2 with
        | some (.ok y ρ3) => if acc.length < sizeLine then lcL T ft fe ds (wipeE ρ3 T.ix) (acc ++ [y]) else none
        | _ => none
      | some (.ok false ρ2) => lcL T ft fe ds (wipeE ρ2 T.ix) acc
      | _ => none
def lc (fi : P (List D)) (T : Tg) (ft : P Bool) (fe : P D) : P R := fun ρ => match fi ρ with
  | none => none
  | some (.er c ns ds ρ') => some (.er c ns ds ρ')
  | some (.ok ds ρ') => match lcL T ft fe ds (wipeE ρ' T.ix) [] with
    | none => none
    | some (ys, ρ2) => some (.ok (.own (.lst ys)) ρ2)
/-- the names in L hold on to what they hold -/
def Kp {α : Type} (L : List Nat) (f : P α) : Prop := ∀ ρ a ρ', f ρ = some (.ok a ρ') → ∀ l ∈ L, ρ'[l]? = ρ[l]?
theorem gset_keep {T : Tg} {d : D} {ρ ρ' : En} {l : Nat} (h : gset T d ρ = some ρ') (hl : l ∉ T.ix) : ρ'[l]? = ρ[l]? := by
  cases T with
  | one i =>
    cases h
    rw [List.getElem?_set_ne (fun z => hl (by rw [z]; exact List.mem_singleton.mpr rfl))]
  | many is =>
    cases d with
    | tup ds =>
      have h : sets is ds ρ = some ρ' := h
      have go : ∀ (is : List Nat) (ds : List D) (ρ ρ' : En), sets is ds ρ = some ρ' → l ∉ is → ρ'[l]? = ρ[l]? := by
        intro is
        induction is with
        | nil => intro ds ρ ρ' h _; cases ds with
          | nil => cases h; rfl
          | cons _ _ => cases h
        | cons i is ih => intro ds ρ ρ' h hn; cases ds with
          | nil => cases h
          | cons d ds =>
            rw [ih ds _ ρ' h (fun z => hn (List.mem_cons_of_mem _ z)), List.getElem?_set_ne (fun z => hn (by rw [z]; exact List.mem_cons_self ..))]
      exact go is ds ρ ρ' h hl
    | _ => cases h
theorem gset_own {T : Tg} {d : D} {ρ ρ' : En} {σ : L2.St} {a : Addr} (h : gset T d ρ = some ρ') (σ' : L2.St) (hs : ∀ k, k ∉ T.ix → σ'[k]? = σ[k]?) (hw : wrs ρ' σ' a) : wrs ρ σ a := by
  obtain ⟨i, x, h1, h2⟩ := hw
  have hi : i ∉ T.ix := fun z => by
    have go : ∀ (is : List Nat) (ds : List D) (ρ ρ' : En), sets is ds ρ = some ρ' → i ∈ is → ∃ d, ρ'[i]? = some (.val d) ∨ ρ'[i]? = none := by
      intro is
      induction is with
      | nil => intro ds ρ ρ' h hn; cases hn
      | cons j is ih => intro ds ρ ρ' h hn; cases ds with
        | nil => cases h
        | cons d ds =>
          by_cases hm : i ∈ is
          · exact ih ds _ ρ' h hm
          · have e : i = j := by
              rcases List.mem_cons.mp hn with y | y
              · exact y
              · exact absurd y hm
            subst e
            have k := gset_keep (T := .many is) (d := .tup ds) (l := i) h hm
            rw [k]
            by_cases hz : i < ρ.length
            · exact ⟨d, .inl (List.getElem?_set_self hz)⟩
            · exact ⟨d, .inr (List.getElem?_eq_none (by rw [List.length_set]; omega))⟩
    cases T with
    | one j =>
      cases h
      cases List.mem_singleton.mp z
      cases get_set_self h1
    | many is =>
      cases d with
      | tup ds =>
        obtain ⟨d, e | e⟩ := go is ds ρ ρ' h z
        · rw [e] at h1; cases h1
        · rw [e] at h1; cases h1
      | _ => cases h
  rw [gset_keep h hi] at h1
  rw [hs i hi] at h2
  exact ⟨i, x, h1, h2⟩
end
end Pu
/-! Comprehensions with one for. -/
namespace Pu
open PySem PySem.Spec PyProof.Rows L2 Kv
section
variable {X : Cx} {g : Gx} {E : Wx}
/-- one turn of lcL -/
theorem lcL_cons {T : Tg} {ft : P Bool} {fe : P D} {d : D} {ds acc : List D} {ρ : En} {z : List D × En} (h : lcL T ft fe (d :: ds) ρ acc = some z) :
    ∃ ρ1, gset T d ρ = some ρ1 ∧ ((∃ ρ2, ft ρ1 = some (.ok false ρ2) ∧ lcL T ft fe ds (wipeE ρ2 T.ix) acc = some z) ∨
      ∃ ρ2 y ρ3, ft ρ1 = some (.ok true ρ2) ∧ fe ρ2 = some (.ok y ρ3) ∧ acc.length < sizeLine ∧ lcL T ft fe ds (wipeE ρ3 T.ix) (acc ++ [y]) = some z) := by
  unfold lcL at h
  cases e1 : gset T d ρ with
  | none => simp only [e1] at h; cases h
  | some ρ1 =>
    simp only [e1] at h
    refine ⟨ρ1, rfl, ?_⟩
    cases e2 : ft ρ1 with
    | none => simp only [e2] at h; cases h
    | some x =>
      cases x with
      | er c ns ds' ρ' => simp only [e2] at h; cases h
      | ok b ρ2 =>
        cases b with
        | false => simp only [e2] at h; exact .inl ⟨ρ2, rfl, h⟩
        | true =>
          simp only [e2] at h
          cases e3 : fe ρ2 with
          | none => simp only [e3] at h; cases h
          | some x =>
            cases x with
            | er c ns ds' ρ' => simp only [e3] at h; cases h
            | ok y ρ3 =>
              simp only [e3] at h
              split at h
              · exact .inr ⟨ρ2, y, ρ3, rfl, e3, by assumption, h⟩
              · cases h
/-- what a comprehension's reading asks -/
theorem lc_read {fi : P (List D)} {T : Tg} {ft : P Bool} {fe : P D} {gt : TG} {L : List Nat} {σ : L2.St} {H : Hp} {Q : VK}
    (hT : TgOk X.K gt T) (kL : ∀ l ∈ L, l ∉ T.ix) (kt : Kp L ft) (ke : Kp L fe) (hq : tX X.K g E (relR X.K) (lc fi T ft fe) σ H Q) :
    tLc (tI X.K g E L fi) gt (tX X.K g noE relB ft) (tX X.K g noE (relD X.K) fe) T.ix σ H Q := by
  obtain ⟨ok, ρ, w, h⟩ := hq
  refine ⟨ok, ρ, w, ?_⟩
  unfold lc at h
  cases e : fi ρ with
  | none => rw [e] at h; exact h
  | some x =>
    cases x with
    | er c ns ds ρ' => rw [e] at h; exact h
    | ok ds ρ1 =>
      rw [e] at h
      intro J H1 ok1 w1 s1 wk Dd nD
      cases el : lcL T ft fe ds (wipeE ρ1 T.ix) [] with
      | none => simp only [el] at h; exact h.elim
      | some z =>
        obtain ⟨ys, ρz⟩ := z
        simp only [el] at h
        have wgt : ∀ k, k ∉ T.ix → (wipe σ T.ix)[k]? = σ[k]? := fun k hk => wipe_get hk
        let Pv : Nat → Hp → Prop := fun i H2 => ∃ ok2 ρ0 acc vs, lcL T ft fe (ds.drop i) (wipeE ρ0 T.ix) acc = some (ys, ρz) ∧ Wf X.K g ok2 (wipeE ρ0 T.ix) (wipe σ T.ix) H2 ∧ Fr ok1 H1 ok2 H2 ∧
          (∀ a o, H1 a = some o → ¬ wrs ρ1 σ a → KeptO ok1 H2 a o) ∧ (∀ a, wrs (wipeE ρ0 T.ix) (wipe σ T.ix) a → wrs ρ1 σ a) ∧ (∀ a o, H1 a = some o → ok2 a → ok1 a ∨ wrs ρ1 σ a) ∧ (∀ l ∈ L, (wipeE ρ0 T.ix)[l]? = ρ1[l]?) ∧
          H2 Dd = some (.lst vs) ∧ Reps X.K ok2 H2 vs acc ∧ ¬ ok2 Dd
        have nwD : ¬ wrs ρ1 σ Dd := fun z => by
          obtain ⟨_, o, ho, _⟩ := w1.wr z
          rw [nD] at ho; cases ho
        have back : ∀ {ρ0 : En} {ok2 : Addr → Prop} {H2 : Hp}, Wf X.K g ok2 (wipeE ρ0 T.ix) (wipe σ T.ix) H2 → Wf X.K g ok2 (wipeE ρ0 T.ix) σ H2 := fun {ρ0 ok2 H2} w2 =>
          w2.agree (by rw [wipe_length]) fun k s hk ns => (wipe_get (wipeE_some hk ns).2).symm
        refine ⟨fun i m H2 => m = ds.length - i ∧ i ≤ ds.length ∧ Pv i H2, ⟨ds.length, by simp, Nat.zero_le _, ?_⟩, ?_⟩
        · refine ⟨sub1 ok1 Dd, ρ1, [], [], el, ((w1.newO nD).wipe).agree (by rw [wipe_length]) (fun k s hk ns => wipe_get (wipeE_some hk ns).2), fr_sub nD, fun a o ha _ => ?_, fun a ha => wrs_wipe wgt ha, fun _ _ _ k => .inl k.1, fun l hl => wipeE_get (kL l hl), upd_same, .nil, fun z => z.2 rfl⟩
          exact .inl (by rw [upd_ne (ne_of_none ha nD)]; exact ha)
        · rintro i m H2 ⟨rfl, hi2, ok2, ρ0, acc, vs, hl, w2, f2, k2, b2, gr2, l2, eD, rv, nk⟩
          have wk2 := wk ok2 _ _ H2 w2 f2 fun l hl => ⟨l2 l hl, wipe_get (kL l hl)⟩
          by_cases hlt : i < ds.length
          · refine .inr ⟨wk2.1 i hlt, Pv (i + 1), fun H' p' => ⟨ds.length - (i + 1), by omega, rfl, hlt, p'⟩, fun x H3 hy => ?_⟩
            have hd : ds[i]? = some ds[i] := List.getElem?_eq_getElem hlt
            obtain ⟨h3, rx⟩ := wk2.2.2 i _ x H3 hd hy
            rw [List.drop_eq_getElem_cons hlt] at hl
            obtain ⟨ρ3, eg, hl⟩ := lcL_cons hl
            -- the item is there
            have s23 : Wf X.K g ok2 (wipeE ρ0 T.ix) (wipe σ T.ix) H3 ∧ Sx (wipe σ T.ix) (wipeE ρ0 T.ix) ok2 H2 (wipeE ρ0 T.ix) ok2 H3 := by
              rcases h3 with rfl | ⟨p, o, np, rfl⟩
              · exact ⟨w2, Sx.refl⟩
              · exact ⟨w2.new np, Sx.new np⟩
            obtain ⟨w3, s3⟩ := s23
            have nwD2 : ¬ wrs (wipeE ρ0 T.ix) (wipe σ T.ix) Dd := fun z => nwD (b2 Dd z)
            have eD3 := (s3.keep _ _ eD nwD2).same nk
            refine hT g ok2 _ _ H3 x _ ρ3 _ w3 rx eg fun σ2 w4 ln2 ag2 => ?_
            have wr4 : ∀ a, wrs ρ3 σ2 a → wrs (wipeE ρ0 T.ix) (wipe σ T.ix) a := fun a ha => gset_own eg σ2 ag2 ha
            refine ⟨wipe_ext (by rw [ln2, wipe_length]) fun k hk => by rw [ag2 k hk, wipe_get hk], ok2, ρ3, w4, ?_⟩
            have l3 : ∀ l ∈ L, ρ3[l]? = ρ1[l]? := fun l hl => by rw [gset_keep eg (kL l hl)]; exact l2 l hl
            -- the end of a turn
            have fin : ∀ {ρ5 : En} {ok5 : Addr → Prop} {H5 : Hp} {vs5 : List V} {acc5 : List D}, Wf X.K g ok5 ρ5 σ2 H5 → Fr ok1 H1 ok5 H5 → (∀ a o, H1 a = some o → ¬ wrs ρ1 σ a → KeptO ok1 H5 a o) → (∀ a, wrs ρ5 σ2 a → wrs ρ1 σ a) →
                (∀ a o, H1 a = some o → ok5 a → ok1 a ∨ wrs ρ1 σ a) → (∀ l ∈ L, ρ5[l]? = ρ1[l]?) → H5 Dd = some (.lst vs5) → Reps X.K ok5 H5 vs5 acc5 → ¬ ok5 Dd → lcL T ft fe (ds.drop (i + 1)) (wipeE ρ5 T.ix) acc5 = some (ys, ρz) → Pv (i + 1) H5 :=
              fun {ρ5 ok5 H5 vs5 acc5} w5 f5 k5 b5 g5 l5 e5 r5 n5 hl5 => ⟨ok5, ρ5, acc5, vs5, hl5, (w5.wipe).agree (by rw [ln2]) (fun k s hk ns => by rw [wipe_get (wipeE_some hk ns).2, ← wgt k (wipeE_some hk ns).2, ag2 k (wipeE_some hk ns).2]), f5, k5,
                fun a ha => b5 a (wrs_wipe (fun k hk => by rw [wipe_get hk, ag2 k hk, wipe_get hk]) ha), g5, fun l hl => by rw [wipeE_get (kL l hl)]; exact l5 l hl, e5, r5, n5⟩
            have kk : ∀ {ρ5 : En} {ok5 : Addr → Prop} {H5 : Hp}, Sx σ2 ρ3 ok2 H3 ρ5 ok5 H5 → Fr ok1 H1 ok5 H5 ∧ (∀ a o, H1 a = some o → ¬ wrs ρ1 σ a → KeptO ok1 H5 a o) ∧ (∀ a, wrs ρ5 σ2 a → wrs ρ1 σ a) ∧ (∀ a o, H1 a = some o → ok5 a → ok1 a ∨ wrs ρ1 σ a) ∧ H5 Dd = some (.lst vs) ∧ ¬ ok5 Dd := fun {ρ5 ok5 H5} s5 => by
              refine ⟨f2.trans (s3.fr.trans s5.fr), fun a o ha na => ?_, fun a ha => b2 a (wr4 a (s5.sub a ha)), fun a o ha ka => ?_, (s5.keep _ _ eD3 (fun z => nwD2 (wr4 _ z))).same nk, fun z => ?_⟩
              · exact (k2 a o ha na).then (fun o2 h2 => (s3.keep a o2 h2 fun z => na (b2 a z)).then (fun o3 h3 => s5.keep a o3 h3 fun z => na (b2 a (wr4 a z))) id) (fun z => (gr2 a o ha z).elim id fun y => absurd y na)
              · obtain ⟨o2, h2⟩ := f2.there ha
                obtain ⟨o3, h3⟩ := s3.fr.there h2
                rcases s5.grow a o3 h3 ka with z | z
                · exact gr2 a o ha z
                · exact .inr (b2 a (wr4 a z))
              · rcases s5.grow Dd _ eD3 z with z | z
                · exact nk z
                · exact nwD2 (wr4 _ z)
            rcases hl with ⟨ρ4, et, hl⟩ | ⟨ρ4, y, ρ5, et, ee, hz, hl⟩
            · rw [et]
              intro b H5 ok5 w5 s5 eb
              have eb : b = false := eb
              subst eb
              obtain ⟨c1, c2, c3, c4, c5, c6⟩ := kk s5
              rw [if_neg Bool.false_ne_true]
              exact fin w5 c1 c2 c3 c4 (fun l hl => by rw [kt _ _ _ et l hl]; exact l3 l hl) c5 (rv.fr (s3.fr.trans s5.fr)) c6 hl
            · rw [et]
              intro b H5 ok5 w5 s5 eb
              have eb : b = true := eb
              subst eb
              rw [if_pos rfl]
              refine ⟨ok5, ρ4, w5, ?_⟩
              rw [ee]
              intro yv H6 ok6 w6 s6 ry
              obtain ⟨c1, c2, c3, c4, c5, c6⟩ := kk (s5.trans s6)
              have rv6 := rv.fr (s3.fr.trans (s5.fr.trans s6.fr))
              have nw6 : ¬ wrs ρ5 σ2 Dd := fun z => nwD (c3 _ z)
              refine ⟨vs, c5, by rw [rv.length]; exact hz, ?_⟩
              -- the new item is put down
              have fr7 : Fr ok6 H6 ok6 (upd H6 Dd (.lst (vs ++ [yv]))) := .of (fun a o ha ho => by
                  have : a ≠ Dd := fun z => by
                    subst z
                    rw [c5] at ha
                    cases ha
                    exact c6 (ho trivial)
                  rw [upd_ne this]; exact ha) (fun _ _ _ k => k) (fun a ha => by
                  by_cases z : a = Dd
                  · rw [z, upd_same] at ha; cases ha
                  · rw [upd_ne z] at ha; exact ha)
              have w7 : Wf X.K g ok6 ρ5 σ2 (upd H6 Dd (.lst (vs ++ [yv]))) := w6.step fr7 (fun a ha => w6.fc a (fr7.all a ha)) fun k d q hk hq => ⟨upd_ne fun z => nw6 ⟨k, d, hk, by rw [hq, z]⟩, by
                obtain ⟨q', e', _, n', _⟩ := w6.own k d hk
                rw [hq] at e'
                cases e'
                exact n'⟩
              refine fin w7 (c1.trans fr7) (fun a o ha na => ?_) c3 c4 (fun l hl => by rw [ke _ _ _ ee l hl, kt _ _ _ et l hl]; exact l3 l hl) upd_same ((rv6.app (.cons ry .nil)).fr fr7) c6 hl
              have c2' := c2 a o ha na
              unfold KeptO at c2' ⊢
              rw [upd_ne (ne_of_none ha nD)]
              exact c2'
          · have hi3 : i = ds.length := by omega
            subst hi3
            rw [List.drop_length] at hl
            cases hl
            refine .inl ⟨wk2.2.1, h (.ref Dd) H2 ok2 (back w2) ?_ ?_⟩
            · refine s1.trans ⟨f2, k2, fun a ha => b2 a ?_, gr2⟩
              obtain ⟨k, d, hk, hq⟩ := ha
              exact ⟨k, d, hk, by rw [wipe_get (wipeE_some hk (fun z => by cases z)).2]; exact hq⟩
            · refine ⟨Dd, rfl, ⟨vs, eD, rv⟩, nk, s1.fr.all Dd nD, fun j d hj z => nwD (b2 Dd ⟨j, d, hj, ?_⟩)⟩
              rw [wipe_get (wipeE_some hj (fun z => by cases z)).2]; exact z
theorem er_lc {elt tg iter : Expr} {ifs : List Expr} {scope : Scope} {own : List (Str × Nat)} {pos : Pos} {fi : P (List D)} {T : Tg} {ft : P Bool} {fe : P D} {gt : TG} {L : List Nat}
    (hc : X.calm = true) (hN : X.N.Nodup) (hi : EI X g E L tg iter fi) (ok : BlkOk X.N X.env.scope scope own) (hT : TgOk X.K gt T) (hown : own.map (·.2) = T.ix)
    (hg : ∀ (s : Shared) (H : Hp) (C : Addr) (cl : List (Str × Addr)) (fp : List Addr), PG (X.blk s H scope (compEnvC scope cl C X.env) fp) tg gt)
    (ht : ∀ (s : Shared) (H : Hp) (C : Addr) (cl : List (Str × Addr)) (fp : List Addr), PTs (X.blk s H scope (compEnvC scope cl C X.env) fp) ifs (tX X.K g noE relB ft))
    (he : ∀ (s : Shared) (H : Hp) (C : Addr) (cl : List (Str × Addr)) (fp : List Addr), EV (X.blk s H scope (compEnvC scope cl C X.env) fp) g noE elt fe)
    (kL : ∀ l ∈ L, l ∉ T.ix) (kt : Kp L ft) (ke : Kp L fe) (hs : ∀ x, foldedSetIterable iter X.env x = pure x := by intro _; rfl) :
    ER X g E (.ListComp elt [⟨tg, iter, ifs, 0⟩] scope pos) (lc fi T ft fe) := by
  refine PE_imp (pe_lc (te := tX X.K g noE (relD X.K) fe) hc hN hi ok hg ht he hs) fun σ H Q hq => ?_
  rw [hown]
  exact lc_read hT kL kt ke hq
end
end Pu
/-! Statements. -/
namespace Pu
open PySem PySem.Spec PyProof.Rows L2 Kv
inductive Fl where
  | nx (ρ : En)
  | rt (r : R) (ρ : En)
  | bk (ρ : En)
  | ct (ρ : En)
  | er (c : Value) (ns : List Str) (ds : List D) (ρ : En)
abbrev S := En → Option Fl
/-- from one moment to a later one, the names' values changed -/
structure Sy (g : Gx) (σ : L2.St) (ρ : En) (ok : Addr → Prop) (H : Hp) (σ' : L2.St) (ρ' : En) (ok' : Addr → Prop) (H' : Hp) : Prop where
  fr : Fr ok H ok' H'
  keep : ∀ a o, H a = some o → ¬ wrs ρ σ a → KeptO ok H' a o
  sub : ∀ a, wrs ρ' σ' a → wrs ρ σ a ∨ H a = none
  grow : ∀ a o, H a = some o → ok' a → ok a ∨ wrs ρ σ a
  bor : ∀ i ∈ g.B, σ'[i]? = σ[i]?
  len : σ'.length = σ.length
section
variable {g : Gx} {σ : L2.St} {ρ : En} {ok : Addr → Prop} {H : Hp}
theorem Sx.y {ρ' : En} {ok' : Addr → Prop} {H' : Hp} (s : Sx σ ρ ok H ρ' ok' H') : Sy g σ ρ ok H σ ρ' ok' H' := ⟨s.fr, s.keep, fun a h => .inl (s.sub a h), s.grow, fun _ _ => rfl, rfl⟩
theorem Sy.refl : Sy g σ ρ ok H σ ρ ok H := Sx.refl.y
theorem Sy.trans {σ1 σ2 : L2.St} {ρ1 ρ2 : En} {ok1 ok2 : Addr → Prop} {H1 H2 : Hp} (a : Sy g σ ρ ok H σ1 ρ1 ok1 H1) (b : Sy g σ1 ρ1 ok1 H1 σ2 ρ2 ok2 H2) : Sy g σ ρ ok H σ2 ρ2 ok2 H2 := by
  refine ⟨a.fr.trans b.fr, fun c o h n => (a.keep c o h n).then (fun o' h' => b.keep c o' h' fun z => ?_) (fun z => (a.grow c o h z).elim id fun y => absurd y n), fun c h => ?_, fun c o h k => ?_, fun i hi => (b.bor i hi).trans (a.bor i hi), b.len.trans a.len⟩
  · rcases a.sub c z with z | z
    · exact n z
    · rw [z] at h; cases h
  · rcases b.sub c h with z | z
    · exact a.sub c z
    · exact .inr (a.fr.all c z)
  · obtain ⟨o', h'⟩ := a.fr.there h
    rcases b.grow c o' h' k with z | z
    · exact a.grow c o h z
    · rcases a.sub c z with z | z
      · exact .inr z
      · rw [z] at h; cases h
end
/-- what must hold behind a statement -/
def Ss (K : PySem.W.Frag) (g : Gx) (E : Wx) (σ : L2.St) (ρ : En) (ok : Addr → Prop) (H : Hp) (o : Option Fl) (Dn : Ends) : Prop :=
  match o with
  | none => False
  | some (.nx ρ') => ∀ σ' H' ok', Wf K g ok' ρ' σ' H' → Sy g σ ρ ok H σ' ρ' ok' H' → Dn.nx σ' H'
  | some (.bk ρ') => ∀ σ' H' ok', Wf K g ok' ρ' σ' H' → Sy g σ ρ ok H σ' ρ' ok' H' → Dn.bk σ' H'
  | some (.ct ρ') => ∀ σ' H' ok', Wf K g ok' ρ' σ' H' → Sy g σ ρ ok H σ' ρ' ok' H' → Dn.ct σ' H'
  | some (.rt r ρ') => ∀ v σ' H' ok', Wf K g ok' ρ' σ' H' → Sy g σ ρ ok H σ' ρ' ok' H' → relR K g.H0 ok' H' ρ' σ' v r → Dn.rt v H'
  | some (.er c ns ds ρ') => ∀ dx fs σ' H' ok', Wf K g ok' ρ' σ' H' → Sy g σ ρ ok H σ' ρ' ok' H' → H' dx = some (.xd fs) → fs.map (·.1) = ns → Reps K ok' H' (fs.map (·.2)) ds → E σ' c (some dx) H'
def tS (K : PySem.W.Frag) (g : Gx) (E : Wx) (f : S) : TS := fun Dn σ H => ∃ ok ρ, Wf K g ok ρ σ H ∧ Ss K g E σ ρ ok H (f ρ) Dn
abbrev ES (X : Cx) (g : Gx) (E : Wx) (st : Stmt) (f : S) : Prop := PS X st (tS X.K g E f)
abbrev ESs (X : Cx) (g : Gx) (E : Wx) (st : List Stmt) (f : S) : Prop := PSs X st (tS X.K g E f)
section
variable {K : PySem.W.Frag} {g : Gx} {E : Wx} {σ σ1 : L2.St} {ρ ρ1 : En} {ok ok1 : Addr → Prop} {H H1 : Hp}
theorem Ss.shift {o : Option Fl} {Dn : Ends} (h : Ss K g E σ ρ ok H o Dn) (s : Sy g σ ρ ok H σ1 ρ1 ok1 H1) : Ss K g E σ1 ρ1 ok1 H1 o Dn := by
  match o, h with
  | some (.nx ρ'), h => exact fun σ' H' ok' w f => h σ' H' ok' w (s.trans f)
  | some (.bk ρ'), h => exact fun σ' H' ok' w f => h σ' H' ok' w (s.trans f)
  | some (.ct ρ'), h => exact fun σ' H' ok' w f => h σ' H' ok' w (s.trans f)
  | some (.rt r ρ'), h => exact fun v σ' H' ok' w f => h v σ' H' ok' w (s.trans f)
  | some (.er c ns ds ρ'), h => exact fun dx fs σ' H' ok' w f => h dx fs σ' H' ok' w (s.trans f)
/-- the ends may be widened -/
theorem Ss.ends {o : Option Fl} {Dn Dn' : Ends} (h : Ss K g E σ ρ ok H o Dn) (h1 : ∀ σ' H', Dn.nx σ' H' → Dn'.nx σ' H') (h2 : ∀ σ' H', Dn.bk σ' H' → Dn'.bk σ' H') (h3 : ∀ σ' H', Dn.ct σ' H' → Dn'.ct σ' H') (h4 : ∀ v H', Dn.rt v H' → Dn'.rt v H') : Ss K g E σ ρ ok H o Dn' := by
  match o, h with
  | some (.nx ρ'), h => exact fun σ' H' ok' w f => h1 _ _ (h σ' H' ok' w f)
  | some (.bk ρ'), h => exact fun σ' H' ok' w f => h2 _ _ (h σ' H' ok' w f)
  | some (.ct ρ'), h => exact fun σ' H' ok' w f => h3 _ _ (h σ' H' ok' w f)
  | some (.rt r ρ'), h => exact fun v σ' H' ok' w f r => h4 _ _ (h v σ' H' ok' w f r)
  | some (.er c ns ds ρ'), h => exact h
end
/-! ### blocks -/
def sk : S := fun ρ => some (.nx ρ)
def sq (f k : S) : S := fun ρ => match f ρ with
  | some (.nx ρ') => k ρ'
  | o => o
/-- a value first, then a statement -/
def sb {α : Type} (f : P α) (k : α → S) : S := fun ρ => match f ρ with
  | none => none
  | some (.er c ns ds ρ') => some (.er c ns ds ρ')
  | some (.ok a ρ') => k a ρ'
theorem sb_ok {α : Type} {m : P α} {k : α → S} {ρ ρ' : En} {a : α} (h : m ρ = some (.ok a ρ')) : sb m k ρ = k a ρ' := by unfold sb; rw [h]
theorem sb_er {α : Type} {m : P α} {k : α → S} {ρ ρ' : En} {c : Value} {ns : List Str} {ds : List D} (h : m ρ = some (.er c ns ds ρ')) : sb m k ρ = some (.er c ns ds ρ') := by unfold sb; rw [h]
theorem sb_none {α : Type} {m : P α} {k : α → S} {ρ : En} (h : m ρ = none) : sb m k ρ = none := by unfold sb; rw [h]
theorem sq_nx {f k : S} {ρ ρ' : En} (h : f ρ = some (.nx ρ')) : sq f k ρ = k ρ' := by unfold sq; rw [h]
theorem sq_rt {f k : S} {ρ ρ' : En} {r : R} (h : f ρ = some (.rt r ρ')) : sq f k ρ = some (.rt r ρ') := by unfold sq; rw [h]
theorem sq_er {f k : S} {ρ ρ' : En} {c : Value} {ns : List Str} {ds : List D} (h : f ρ = some (.er c ns ds ρ')) : sq f k ρ = some (.er c ns ds ρ') := by unfold sq; rw [h]
section
variable {X : Cx} {g : Gx} {E : Wx} {st : Stmt} {rest : List Stmt} {f k : S} {e : Expr} {pos : Pos}
theorem PS_imp {t t' : TS} (h : PS X st t) (q : ∀ Dn σ H, t' Dn σ H → t Dn σ H) : PS X st t' := ⟨fun pins s σ H Dn I z => h.run pins s σ H Dn I (q Dn σ H z)⟩
theorem PSs_imp {t t' : TS} (h : PSs X rest t) (q : ∀ Dn σ H, t' Dn σ H → t Dn σ H) : PSs X rest t' := ⟨fun pins s σ H Dn I z => h.run pins s σ H Dn I (q Dn σ H z)⟩
theorem ess_nil : ESs X g E [] sk := PSs_imp pss_nil fun Dn σ H hq => by
  obtain ⟨ok, ρ, w, h⟩ := hq
  exact h σ H ok w Sy.refl
theorem ess_cons (h1 : ES X g E st f) (h2 : ESs X g E rest k) : ESs X g E (st :: rest) (sq f k) := by
  refine PSs_imp (pss_cons h1 h2) fun Dn σ H hq => ?_
  obtain ⟨ok, ρ, w, h⟩ := hq
  refine ⟨ok, ρ, w, ?_⟩
  unfold sq at h
  cases e : f ρ with
  | none => simp only [e] at h; exact h
  | some x =>
    cases x with
    | nx ρ' => simp only [e] at h; exact fun σ' H' ok' w' s' => ⟨ok', ρ', w', h.shift s'⟩
    | rt r ρ' => simp only [e] at h; exact h
    | bk ρ' => simp only [e] at h; exact h
    | ct ρ' => simp only [e] at h; exact h
    | er c ns ds ρ' => simp only [e] at h; exact h
theorem ess_one (h1 : ES X g E st f) : ESs X g E [st] f := pss_one h1
/-- a value's step ahead of a statement -/
theorem Ss.sb {γ α : Type} {K : PySem.W.Frag} {σ : L2.St} {ρ : En} {ok : Addr → Prop} {H : Hp} {RA : Rl γ α} {m : P α} {k : α → S} {Dn : Ends} (h : Ss K g E σ ρ ok H (sb m k ρ) Dn) :
    Rs K g E RA σ ρ ok H (m ρ) (fun v1 H1 => ∃ ok1 ρ1 a, Wf K g ok1 ρ1 σ H1 ∧ Sx σ ρ ok H ρ1 ok1 H1 ∧ RA H ok1 H1 ρ1 σ v1 a ∧ Ss K g E σ ρ1 ok1 H1 (k a ρ1) Dn) := by
  cases e : m ρ with
  | none => rw [sb_none e] at h; exact h
  | some x =>
    cases x with
    | ok a ρ' =>
      rw [sb_ok e] at h
      exact fun v H' ok' w f r => ⟨ok', ρ', a, w, f, r, h.shift f.y⟩
    | er c ns ds ρ' => rw [sb_er e] at h; exact fun dx fs H' ok' w f => h dx fs σ H' ok' w f.y
theorem es_expr {fe : P D} (he : EV X g E e fe) (hs : swapsWith e none pos.line X.env = pure false := by rfl) : ES X g E (.Expr e pos) (sb fe fun _ => sk) := by
  refine PS_imp (ps_expr he hs) fun Dn σ H hq => ?_
  obtain ⟨ok, ρ, w, h⟩ := hq
  refine ⟨ok, ρ, w, (Ss.sb (RA := relD X.K) h).mono fun v H1 hq => ?_⟩
  obtain ⟨ok1, ρ1, a, w1, s1, r1, h1⟩ := hq
  exact h1 σ H1 ok1 w1 Sy.refl
theorem es_doc {x j pos pos'} : ES X g E (.Expr (.Constant (.str x) j pos) pos') sk := PS_imp ps_doc fun Dn σ H hq => by
  obtain ⟨ok, ρ, w, h⟩ := hq
  exact h σ H ok w Sy.refl
theorem es_pass : ES X g E (.Pass pos) sk := PS_imp ps_pass fun Dn σ H hq => by
  obtain ⟨ok, ρ, w, h⟩ := hq
  exact h σ H ok w Sy.refl
theorem es_break : ES X g E (.Break pos) (fun ρ => some (.bk ρ)) := PS_imp ps_break fun Dn σ H hq => by
  obtain ⟨ok, ρ, w, h⟩ := hq
  exact h σ H ok w Sy.refl
theorem es_continue : ES X g E (.Continue pos) (fun ρ => some (.ct ρ)) := PS_imp ps_continue fun Dn σ H hq => by
  obtain ⟨ok, ρ, w, h⟩ := hq
  exact h σ H ok w Sy.refl
/-- a statement that is never reached -/
theorem es_never : ES X g E st (fun _ => none) := PS_imp ps_never fun Dn σ H hq => by
  obtain ⟨ok, ρ, w, h⟩ := hq
  exact h
theorem es_if {c : Expr} {a b : List Stmt} {A : P Bool} {fa fb : S} (hc : ET X g E c A) (ha : ESs X g E a fa) (hb : ESs X g E b fb) : ES X g E (.If c a b pos) (sb A fun c => if c = true then fa else fb) := by
  refine PS_imp (ps_if hc ha hb) fun Dn σ H hq => ?_
  obtain ⟨ok, ρ, w, h⟩ := hq
  refine ⟨ok, ρ, w, (Ss.sb (RA := relB) h).mono fun v H1 hq => ?_⟩
  obtain ⟨ok1, ρ1, x, w1, s1, r1, h1⟩ := hq
  have r1 : v = x := r1
  subst r1
  cases v with
  | true => exact ⟨ok1, ρ1, w1, h1⟩
  | false => exact ⟨ok1, ρ1, w1, h1⟩
/-! ### return -/
theorem es_ret {fe : P R} (he : ER X g E e fe) : ES X g E (.Return (some e) pos) (sb fe fun r ρ => some (.rt r ρ)) := by
  refine PS_imp (ps_ret he) fun Dn σ H hq => ?_
  obtain ⟨ok, ρ, w, h⟩ := hq
  refine ⟨ok, ρ, w, ?_⟩
  cases e : fe ρ with
  | none => rw [sb_none e] at h; exact h
  | some x =>
    cases x with
    | ok r ρ' =>
      rw [sb_ok e] at h
      exact fun v H' ok' w' s' r' => h v σ H' ok' w' s'.y (monoR _ _ _ _ _ _ _ _ (fun a ha => w.h0 a ha) r')
    | er c ns ds ρ' => rw [sb_er e] at h; exact fun dx fs H' ok' w' s' => h dx fs σ H' ok' w' s'.y
theorem es_retN : ES X g E (.Return none pos) (fun ρ => some (.rt (.val .non) ρ)) := PS_imp ps_retN fun Dn σ H hq => by
  obtain ⟨ok, ρ, w, h⟩ := hq
  exact h .non σ H ok w Sy.refl .non
/-- a name, handed away: its own thing goes along -/
def mv (i : Nat) : P R := fun ρ => match ρ[i]? with
  | some (.val d) => some (.ok (.val d) ρ)
  | some (.own d) => some (.ok (.own d) (ρ.set i .un))
  | _ => none
theorem es_retV {i : Nat} {x : Str} {p : Pos} (hN : X.N[i]? = some x) (hv : Vis X.env.scope x) (hB : i ∉ g.B) (hd : (x == ("__debug__" : Str)) = false := by decide) (hcd : (x == ("__classdict__" : Str)) = false := by decide) :
    ES X g E (.Return (some (.Name x p)) pos) (sb (mv i) fun r ρ => some (.rt r ρ)) := by
  refine PS_imp (ps_ret (pe_var hN hv hd hcd)) fun Dn σ H hq => ?_
  obtain ⟨ok, ρ, w, h⟩ := hq
  unfold sb mv at h
  cases e : ρ[i]? with
  | none => rw [e] at h; exact h.elim
  | some s =>
    rw [e] at h
    cases s with
    | un => exact h.elim
    | val d =>
      obtain ⟨v, ev, r⟩ := w.val i d e
      exact ⟨v, ev, h v σ H ok w Sy.refl r⟩
    | own d =>
      obtain ⟨q, eq, o, nk, hb⟩ := w.own i d e
      refine ⟨_, eq, h _ σ H ok w.drop Sx.drop.y ⟨q, rfl, o, nk, hb.elim (fun z => absurd z hB) id, fun j d' hj z => ?_⟩⟩
      have nj : j ≠ i := fun y => by subst y; cases get_set_self hj
      rw [List.getElem?_set_ne (Ne.symm nj)] at hj
      exact nj (w.apart j i d' d q hj e z eq)
/-! ### name = value -/
def put (i : Nat) (r : R) : S := fun ρ => some (.nx (ρ.set i (match r with | .val d => .val d | .own d => .own d)))
theorem put_ok {K : PySem.W.Frag} {i : Nat} {r : R} {ok : Addr → Prop} {H0 H : Hp} {ρ : En} {σ : L2.St} {v : V} {Dn : Ends} (w : Wf K g ok ρ σ H) (hr : relR K H0 ok H ρ σ v r) (h0 : ∀ a, H0 a = none → g.H0 a = none)
    (ha : ∀ a, H0 a = none → ∀ o, H a = some o → True) (hB : i ∉ g.B) (hn : ∀ q, v = .ref q → r = .own r.d → H0 q = none) {H1 : Hp} {ok1 : Addr → Prop} {ρ1 : En} (s : Sx σ ρ1 ok1 H1 ρ ok H) (e1 : H0 = H1) (h : Ss K g E σ ρ1 ok1 H1 (put i r ρ) Dn) :
    Dn.nx (σ.set i (some v)) H := by
  subst e1
  have bor : ∀ j ∈ g.B, (σ.set i (some v))[j]? = σ[j]? := fun j hj => by rw [List.getElem?_set_ne (fun z => hB (by rw [z]; exact hj))]
  cases r with
  | val d =>
    refine h _ H ok (w.set hr) ⟨s.fr, s.keep, fun a ha => ?_, s.grow, bor, List.length_set ..⟩
    obtain ⟨j, d', h1, h2⟩ := ha
    have nj : j ≠ i := fun y => by subst y; cases get_set_self h1
    rw [List.getElem?_set_ne (Ne.symm nj)] at h1 h2
    exact .inl (s.sub a ⟨j, d', h1, h2⟩)
  | own d =>
    obtain ⟨q, rfl, o, nk, n0, np⟩ := hr
    refine h _ H ok (w.setO o nk (h0 q n0) np) ⟨s.fr, s.keep, fun a ha => ?_, s.grow, bor, List.length_set ..⟩
    obtain ⟨j, d', h1, h2⟩ := ha
    by_cases nj : j = i
    · subst nj
      have := get_set_self h2
      cases this
      exact .inr n0
    · rw [List.getElem?_set_ne (Ne.symm nj)] at h1 h2
      exact .inl (s.sub a ⟨j, d', h1, h2⟩)
/-- from a value's reading to the store -/
theorem tX_put {fe : P R} {i : Nat} {σ : L2.St} {H : Hp} {Dn : Ends} (hB : i ∉ g.B) (hq : tS X.K g E (sb fe fun r => put i r) Dn σ H) : tX X.K g E (relR X.K) fe σ H (fun x H1 => gName i x σ H1 Dn.nx) := by
  obtain ⟨ok, ρ, w, h⟩ := hq
  refine ⟨ok, ρ, w, ?_⟩
  cases e : fe ρ with
  | none => rw [sb_none e] at h; exact h
  | some x =>
    cases x with
    | ok r ρ' =>
      rw [sb_ok e] at h
      intro v H' ok' w' s' r'
      exact put_ok w' r' (fun a ha => w.h0 a ha) (fun _ _ _ _ => trivial) hB (fun q hv hr => by
        cases r with
        | val d => cases hr
        | own d => obtain ⟨q', e', _, _, n0, _⟩ := r'; rw [hv] at e'; cases e'; exact n0) s' rfl h
    | er c ns ds ρ' => rw [sb_er e] at h; exact fun dx fs H' ok' w' s' => h dx fs σ H' ok' w' s'.y
theorem es_set {i : Nat} {x : Str} {fe : P R} {pos' : Pos} (hN : X.N.Nodup) (hi : X.N[i]? = some x) (hx : Loc X.env.scope x) (hB : i ∉ g.B) (he : ER X g E e fe) (hs : swapsWith e (some (.Name x pos')) pos.line X.env = pure false := by rfl)
    (hf : X.fn x = true ∨ X.env.scope.names.lookup x = some .local := by first | exact .inl rfl | exact .inr rfl | assumption) : ES X g E (.Assign [.Name x pos'] e pos) (sb fe fun r => put i r) :=
  PS_imp (ps_set hN hi hx he hs hf) fun Dn σ H hq => tX_put hB hq
/-- name = [..] on one row -/
theorem es_setLc {i : Nat} {y : Str} {py : Pos} {elt tg iter : Expr} {ifs : List Expr} {scope : Scope} {own : List (Str × Nat)} {pos spos : Pos} {fi : P (List D)} {T : Tg} {ft : P Bool} {fe : P D} {gt : TG} {L : List Nat}
    (hc : X.calm = true) (hN : X.N.Nodup) (hy : X.N[i]? = some y) (hyl : X.env.scope.names.lookup y = some .local) (hB : i ∉ g.B)
    (hsw : swapsWith (.ListComp elt [⟨tg, iter, ifs, 0⟩] scope pos) (some (.Name y py)) spos.line X.env = pure true) (hi : EI X g E L tg iter fi) (ok : BlkOk X.N X.env.scope scope own) (hT : TgOk X.K gt T) (hown : own.map (·.2) = T.ix)
    (hg : ∀ (s : Shared) (H : Hp) (C : Addr) (cl : List (Str × Addr)) (fp : List Addr), PG (X.blk s H scope (compEnvC scope cl C X.env) fp) tg gt)
    (ht : ∀ (s : Shared) (H : Hp) (C : Addr) (cl : List (Str × Addr)) (fp : List Addr), PTs (X.blk s H scope (compEnvC scope cl C X.env) fp) ifs (tX X.K g noE relB ft))
    (he : ∀ (s : Shared) (H : Hp) (C : Addr) (cl : List (Str × Addr)) (fp : List Addr), EV (X.blk s H scope (compEnvC scope cl C X.env) fp) g noE elt fe)
    (kL : ∀ l ∈ L, l ∉ T.ix) (kt : Kp L ft) (ke : Kp L fe) (hs : ∀ x, foldedSetIterable iter X.env x = pure x := by intro _; rfl) :
    ES X g E (.Assign [.Name y py] (.ListComp elt [⟨tg, iter, ifs, 0⟩] scope pos) spos) (sb (lc fi T ft fe) fun r => put i r) := by
  refine PS_imp (ps_setLc (te := tX X.K g noE (relD X.K) fe) hc hN hy hyl hsw hi ok hg ht he hs) fun Dn σ H hq => ?_
  rw [hown]
  exact lc_read (X := X) (E := E) (Q := fun x H1 => gName i x σ H1 Dn.nx) hT kL kt ke (tX_put hB hq)
/-- a, b = e -/
def unp (T : Tg) (d : D) : S := fun ρ => (gset T d ρ).map .nx
theorem es_tup {tg : Expr} {T : Tg} {gt : TG} {fe : P D} (he : EV X g E e fe) (hg : PG X tg gt) (hT : TgOk X.K gt T) (hB : ∀ i ∈ g.B, i ∉ T.ix) (hs : swapsWithSole [tg] e pos.line X.env = pure false := by rfl) (hw : swappedStores [tg] e X.env = pure none := by rfl)
    (h1 : (assignEach [tg] X.env).map (·.2) = [assign tg X.env] := by rfl) : ES X g E (.Assign [tg] e pos) (sb fe fun d => unp T d) := by
  refine PS_imp (ps_asg he hg hs hw h1) fun Dn σ H hq => ?_
  obtain ⟨ok, ρ, w, h⟩ := hq
  refine ⟨ok, ρ, w, (Ss.sb (RA := relD X.K) h).mono fun v H1 hq => ?_⟩
  obtain ⟨ok1, ρ1, d, w1, s1, r1, h1⟩ := hq
  unfold unp at h1
  cases eg : gset T d ρ1 with
  | none => rw [eg] at h1; exact h1.elim
  | some ρ2 =>
    rw [eg] at h1
    refine hT g ok1 ρ1 σ H1 v d ρ2 _ w1 r1 eg fun σ' w' hl hk => h1 σ' H1 ok1 w' ⟨Fr.refl, fun _ _ h _ => .inl h, fun a ha => .inl (gset_own eg σ' hk ha), fun _ _ _ k => .inl k, fun i hi => hk i (hB i hi), hl⟩
end
end Pu
/-! Loops; lists and dicts that are written. -/
namespace Pu
open PySem PySem.Spec PyProof.Rows L2 Kv
def frL (T : Tg) (body : S) : List D → En → Option Fl
  | [], ρ => some (.nx ρ)
  | d :: ds, ρ => match gset T d ρ with
    | none => none
    | some ρ1 => match body ρ1 with
      | none => none
      | some (.nx ρ2) => frL T body ds ρ2
      | some (.ct ρ2) => frL T body ds ρ2
      | some (.bk ρ2) => some (.nx ρ2)
      | some (.rt r ρ2) => some (.rt r ρ2)
      | some (.er c ns es ρ2) => some (.er c ns es ρ2)
def Kps (L : List Nat) (f : S) : Prop := ∀ ρ ρ', (f ρ = some (.nx ρ') ∨ f ρ = some (.ct ρ')) → ∀ l ∈ L, ρ'[l]? = ρ[l]?
def Fl.en : Fl → En
  | .nx ρ' => ρ'
  | .rt _ ρ' => ρ'
  | .bk ρ' => ρ'
  | .ct ρ' => ρ'
  | .er _ _ _ ρ' => ρ'
/-- no name in L comes to a thing of its own -/
def Kow (L : List Nat) (f : S) : Prop := ∀ l ∈ L, ∀ (ρ : En) (o : Fl), f ρ = some o → ∀ (d : D), o.en[l]? = some (.own d) → ∃ d', ρ[l]? = some (.own d')
/-- more names stay -/
abbrev Gx.plus (g : Gx) (L : List Nat) : Gx := ⟨g.H0, L ++ g.B⟩
section
variable {X : Cx} {g : Gx} {E : Wx}
theorem Sy.plus {L : List Nat} {σ σ' : L2.St} {ρ ρ' : En} {ok ok' : Addr → Prop} {H H' : Hp} (s : Sy (g.plus L) σ ρ ok H σ' ρ' ok' H') : Sy g σ ρ ok H σ' ρ' ok' H' :=
  ⟨s.fr, s.keep, s.sub, s.grow, fun i hi => s.bor i (List.mem_append_right _ hi), s.len⟩
theorem Wf.plus {K : PySem.W.Frag} {L : List Nat} {σ : L2.St} {ρ : En} {ok : Addr → Prop} {H : Hp} (w : Wf K g ok ρ σ H) : Wf K (g.plus L) ok ρ σ H :=
  ⟨w.len, w.fc, w.h0, w.val, fun i d h => by
    obtain ⟨q, e, o, n, b⟩ := w.own i d h
    exact ⟨q, e, o, n, b.imp (fun z => List.mem_append_right _ z) id⟩, w.apart⟩
/-- the names in L held what they hold now -/
theorem Wf.minus {K : PySem.W.Frag} {L : List Nat} {σ σ' : L2.St} {ρ ρ' : En} {ok ok' : Addr → Prop} {H H' : Hp} (w : Wf K g ok ρ σ H) (hs : ∀ l ∈ L, σ'[l]? = σ[l]?) (hr : ∀ l ∈ L, ∀ d, ρ'[l]? = some (.own d) → ∃ d', ρ[l]? = some (.own d')) (w' : Wf K (g.plus L) ok' ρ' σ' H') : Wf K g ok' ρ' σ' H' :=
  ⟨w'.len, w'.fc, w'.h0, w'.val, fun i d h => by
    obtain ⟨q, e, o, n, b⟩ := w'.own i d h
    refine ⟨q, e, o, n, ?_⟩
    rcases b with b | b
    · rcases List.mem_append.mp b with z | z
      · obtain ⟨d', h'⟩ := hr i z d h
        obtain ⟨q', e', _, _, b'⟩ := w.own i d' h'
        rw [hs i z, e'] at e
        cases e
        exact b'
      · exact .inl z
    · exact .inr b, w'.apart⟩
theorem frL_cons {T : Tg} {body : S} {d : D} {ds : List D} {ρ ρ1 : En} (h : gset T d ρ = some ρ1) : frL T body (d :: ds) ρ = match body ρ1 with
      | none => none
      | some (.nx ρ2) => frL T body ds ρ2
      | some (.ct ρ2) => frL T body ds ρ2
      | some (.bk ρ2) => some (.nx ρ2)
      | some (.rt r ρ2) => some (.rt r ρ2)
      | some (.er c ns es ρ2) => some (.er c ns es ρ2) := by
  show (match gset T d ρ with
    | none => none
    | some ρ1 => _) = _
  rw [h]
theorem es_for {iter tg : Expr} {body : List Stmt} {pos : Pos} {fi : P (List D)} {T : Tg} {gt : TG} {fb : S} {L : List Nat} (hp : PassesOwn (model X.prog X.w) X.A X.env X.xe) (hc : X.calm = true) (hi : EI X g E L tg iter fi) (hg : PG X tg gt) (hT : TgOk X.K gt T)
    (hb : ESs X (g.plus L) E body fb) (hB : ∀ i ∈ L ++ g.B, i ∉ T.ix) (kb : Kps L fb) (ko : Kow L fb)
    (hs : ∀ x, foldedSetIterable iter X.env x = pure x := by intro _; rfl) : ES X g E (.For tg iter body [] pos) (sb fi fun ds => frL T fb ds) := by
  refine PS_imp (ps_for hp hc hi hg hb hs) fun Dn σ H hq => ?_
  obtain ⟨ok, ρ, w, h⟩ := hq
  refine ⟨ok, ρ, w, ?_⟩
  cases e : fi ρ with
  | none => rw [sb_none e] at h; exact h
  | some x =>
    cases x with
    | er c ns ds ρ' => rw [sb_er e] at h; exact fun dx fs H' ok' w' s' => h dx fs σ H' ok' w' s'.y
    | ok ds ρ1 =>
      rw [sb_ok e] at h
      intro J H1 ok1 w1 s1 wk
      have h1 := h.shift s1.y
      generalize ho : frL T fb ds ρ1 = o at h1
      let Pv : Nat → L2.St → Hp → Prop := fun i σi Hi => ∃ oki ρi, frL T fb (ds.drop i) ρi = o ∧ Wf X.K (g.plus L) oki ρi σi Hi ∧ Sy (g.plus L) σ ρ1 ok1 H1 σi ρi oki Hi ∧ ∀ l ∈ L, ρi[l]? = ρ1[l]?
      refine ⟨fun i m σi Hi => m = ds.length - i ∧ i ≤ ds.length ∧ Pv i σi Hi, ⟨ds.length, by simp, Nat.zero_le _, ok1, ρ1, ho, w1.plus, Sy.refl, fun _ _ => rfl⟩, ?_⟩
      rintro i m σi Hi ⟨rfl, hi2, oki, ρi, hl, wi, si, li⟩
      have sL : ∀ l ∈ L, σi[l]? = σ[l]? := fun l hl => si.bor l (List.mem_append_left _ hl)
      have wk2 := wk oki ρi σi Hi (w1.minus sL (fun l hl d hd => ⟨d, by rw [← li l hl]; exact hd⟩) wi) si.fr fun l hl => ⟨li l hl, sL l hl⟩
      by_cases hlt : i < ds.length
      · refine .inr ⟨wk2.1 i hlt, Pv (i + 1), fun σ' H' p' => ⟨ds.length - (i + 1), by omega, rfl, hlt, p'⟩, fun x H3 hy => ?_⟩
        have hd : ds[i]? = some ds[i] := List.getElem?_eq_getElem hlt
        obtain ⟨h3, rx⟩ := wk2.2.2 i _ x H3 hd hy
        rw [List.drop_eq_getElem_cons hlt] at hl
        have s23 : Wf X.K (g.plus L) oki ρi σi H3 ∧ Sx σi ρi oki Hi ρi oki H3 := by
          rcases h3 with rfl | ⟨p, o', np, rfl⟩
          · exact ⟨wi, Sx.refl⟩
          · exact ⟨wi.new np, Sx.new np⟩
        obtain ⟨w3, s3⟩ := s23
        cases eg : gset T ds[i] ρi with
        | none =>
          have : frL T fb (ds[i] :: ds.drop (i + 1)) ρi = none := by
            show (match gset T ds[i] ρi with
              | none => none
              | some ρ1 => _) = none
            rw [eg]
          rw [this] at hl
          rw [← hl] at h1
          exact h1.elim
        | some ρ3 =>
          rw [frL_cons eg] at hl
          refine hT (g.plus L) oki _ _ H3 x _ ρ3 _ w3 rx eg fun σ2 w4 ln2 ag2 => ⟨oki, ρ3, w4, ?_⟩
          have l3 : ∀ l ∈ L, ρ3[l]? = ρ1[l]? := fun l hl => by rw [gset_keep eg (hB l (List.mem_append_left _ hl))]; exact li l hl
          have s4 : Sy (g.plus L) σ ρ1 ok1 H1 σ2 ρ3 oki H3 := si.trans (s3.y.trans ⟨Fr.refl, fun _ _ h _ => .inl h, fun a ha => .inl (gset_own eg σ2 ag2 ha), fun _ _ _ k => .inl k, fun j hj => ag2 j (hB j hj), ln2⟩)
          have dn : ∀ {ρ5 : En} {σ5 : L2.St} {ok5 : Addr → Prop} {H5 : Hp}, (∀ l ∈ L, ∀ d, ρ5[l]? = some (.own d) → ∃ d', ρ3[l]? = some (.own d')) → Wf X.K (g.plus L) ok5 ρ5 σ5 H5 → Sy (g.plus L) σ2 ρ3 oki H3 σ5 ρ5 ok5 H5 → Wf X.K g ok5 ρ5 σ5 H5 ∧ Sy g σ ρ1 ok1 H1 σ5 ρ5 ok5 H5 := fun {ρ5 σ5 ok5 H5} ho5 w5 s5 => by
            have s6 := s4.trans s5
            refine ⟨w1.minus (fun l hl => s6.bor l (List.mem_append_left _ hl)) (fun l hl d hd => ?_) w5, s6.plus⟩
            obtain ⟨d', hd'⟩ := ho5 l hl d hd
            exact ⟨d', by rw [← l3 l hl]; exact hd'⟩
          cases eb : fb ρ3 with
          | none => simp only [eb] at hl; rw [← hl] at h1; exact h1.elim
          | some fl =>
            have ko3 := fun l hl => ko l hl ρ3 fl eb
            cases fl with
            | nx ρ4 => simp only [eb] at hl; exact fun σ' H' ok' w' s' => ⟨ok', ρ4, hl, w', s4.trans s', fun l hl => by rw [kb ρ3 ρ4 (.inl eb) l hl]; exact l3 l hl⟩
            | ct ρ4 => simp only [eb] at hl; exact fun σ' H' ok' w' s' => ⟨ok', ρ4, hl, w', s4.trans s', fun l hl => by rw [kb ρ3 ρ4 (.inr eb) l hl]; exact l3 l hl⟩
            | bk ρ4 =>
              simp only [eb] at hl
              rw [← hl] at h1
              exact fun σ' H' ok' w' s' => h1 σ' H' ok' (dn ko3 w' s').1 (dn ko3 w' s').2
            | rt r ρ4 =>
              simp only [eb] at hl
              rw [← hl] at h1
              exact fun v σ' H' ok' w' s' r' => h1 v σ' H' ok' (dn ko3 w' s').1 (dn ko3 w' s').2 r'
            | er c ns es ρ4 =>
              simp only [eb] at hl
              rw [← hl] at h1
              exact fun dx fs σ' H' ok' w' s' => h1 dx fs σ' H' ok' (dn ko3 w' s').1 (dn ko3 w' s').2
      · have hi3 : i = ds.length := by omega
        subst hi3
        rw [List.drop_length] at hl
        have hl : some (Fl.nx ρi) = o := hl
        rw [← hl] at h1
        exact .inl ⟨wk2.2.1, h1 σi Hi oki (w1.minus sL (fun l hl d hd => ⟨d, by rw [← li l hl]; exact hd⟩) wi) si.plus⟩
/-- over what no name writes -/
theorem es_for0 {iter tg : Expr} {body : List Stmt} {pos : Pos} {fi : P (List D)} {T : Tg} {gt : TG} {fb : S} (hp : PassesOwn (model X.prog X.w) X.A X.env X.xe) (hc : X.calm = true) (hi : EI X g E [] tg iter fi) (hg : PG X tg gt) (hT : TgOk X.K gt T)
    (hb : ESs X g E body fb) (hB : ∀ i ∈ g.B, i ∉ T.ix) (hs : ∀ x, foldedSetIterable iter X.env x = pure x := by intro _; rfl) : ES X g E (.For tg iter body [] pos) (sb fi fun ds => frL T fb ds) :=
  es_for (L := []) hp hc hi hg hT hb hB (fun _ _ _ l hl => by cases hl) (fun l hl => by cases hl) hs
/-! ### a list of one's own, written -/
def OwM (K : PySem.W.Frag) (r : V → List V → Hp → VK → Prop) (step : List D → List D → Option (D × List D)) : Prop := ∀ (ok : Addr → Prop) (H : Hp) (q : Addr) (vs : List V) (xs : List D) (ws : List V) (ds : List D) (d : D) (xs' : List D) (Q : VK),
  H q = some (.lst vs) → Reps K ok H vs xs → Reps K ok H ws ds → step xs ds = some (d, xs') → (∀ v vs', Reps K ok H vs' xs' → Rep K ok H v d → Q v (upd H q (.lst vs'))) → r (.ref q) ws H Q
def ownL (i : Nat) : P Unit := fun ρ => match ρ[i]? with
  | some (.own (.lst _)) => some (.ok () ρ)
  | _ => none
def mutL (i : Nat) (step : List D → List D → Option (D × List D)) (ds : List D) : P D := fun ρ => match ρ[i]? with
  | some (.own (.lst xs)) => match step xs ds with
    | some (d, xs') => some (.ok d (ρ.set i (.own (.lst xs'))))
    | none => none
  | _ => none
def mtt (i : Nat) (fr : P (List D)) (step : List D → List D → Option (D × List D)) : P D := bnd (ownL i) fun _ => bnd fr fun ds => mutL i step ds
theorem ownL_inv {i : Nat} {ρ : En} {x : Ex Unit} (h : ownL i ρ = some x) : x = .ok () ρ ∧ ∃ xs, ρ[i]? = some (.own (.lst xs)) := by
  unfold ownL at h
  split at h
  · cases h; exact ⟨rfl, _, by assumption⟩
  · cases h
theorem mutL_inv {i : Nat} {step : List D → List D → Option (D × List D)} {ds : List D} {ρ : En} {x : Ex D} (h : mutL i step ds ρ = some x) : ∃ xs d xs', ρ[i]? = some (.own (.lst xs)) ∧ step xs ds = some (d, xs') ∧ x = .ok d (ρ.set i (.own (.lst xs'))) := by
  unfold mutL at h
  split at h
  · split at h
    · cases h; exact ⟨_, _, _, by assumption, by assumption, rfl⟩
    · cases h
  · cases h
theorem mut_end {K : PySem.W.Frag} {r : V → List V → Hp → VK → Prop} {step : List D → List D → Option (D × List D)} (hm : OwM K r step) {i : Nat} {ds : List D} {ok : Addr → Prop} {ρ : En} {σ : L2.St} {H : Hp} {q : Addr} {ws : List V} {Q : VK} (w : Wf K g ok ρ σ H) (hq : σ[i]? = some (some (.ref q)))
    (rw' : Reps K ok H ws ds) (h : Rs K g E (relD K) σ ρ ok H (mutL i step ds ρ) Q) : r (.ref q) ws H Q := by
  cases e : mutL i step ds ρ with
  | none => rw [e] at h; exact h.elim
  | some x =>
    rw [e] at h
    obtain ⟨xs, d, xs', hi, hs, rfl⟩ := mutL_inv e
    obtain ⟨q', e', o, nk, _⟩ := w.own i _ hi
    rw [hq] at e'
    cases e'
    obtain ⟨vs, hv, rv⟩ := id o
    refine hm ok H q vs xs ws ds d xs' Q hv rv rw' hs fun v vs' r1 r2 => ?_
    have f : Fr ok H ok (upd H q (.lst vs')) := .of (fun a x ha hk => by
        have : a ≠ q := fun z => by
          subst z
          rw [hv] at ha
          cases ha
          exact nk (hk trivial)
        rw [upd_ne this]; exact ha) (fun _ _ _ k => k) (fun a ha => by
      by_cases z : a = q
      · rw [z, upd_same] at ha; cases ha
      · rw [upd_ne z] at ha; exact ha)
    have ow : OwnAt K ok (upd H q (.lst vs')) q (.lst xs') := ⟨vs', upd_same, r1.fr f⟩
    exact h v _ ok (w.write hi hq ow).1 (Sx.write w hi hq ow) (r2.fr f)
theorem ev_mut {i : Nat} {x m : Str} {id : String} {p apos cpos : Pos} {e : Expr} {es : List Expr} {fr : P (List D)} {r : V → List V → Hp → VK → Prop} {step : List D → List D → Option (D × List D)} (hN : X.N[i]? = some x) (hv : Vis X.env.scope x)
    (slot : PySem.Slot "list" m id) (hty : typeOf (.builtin id) = pure (.type "method_descriptor")) (hr : MtR X id r) (hm : OwM X.K r step) (ha : EA X g E (e :: es) fr)
    (hd : (x == ("__debug__" : Str)) = false := by decide) (hcd : (x == ("__classdict__" : Str)) = false := by decide)
    (hbase : attributeBase (.Name x p) m X.env (eval (.Name x p) X.env) = eval (.Name x p) X.env := by rfl)
    (hfew : ((backTo cpos (starEach (e :: es) X.env)).all (fun x => !x.1) && (backToKw cpos (keywordEach [] X.env)).all (fun x => x.1.isSome)
      && decide ((e :: es).length + ([] : List Keyword).length + (if ([] : List Keyword).isEmpty then 0 else 1) < 30)) = true := by rfl)
    (hline : (apos.endLine == cpos.line) = true := by rfl) (hs : starEach (e :: es) X.env = (false, eval e X.env) :: starEach es X.env := by rfl) (hplain : (backTo cpos (starEach es X.env)).any (·.1) = false := by rfl) :
    EV X g E (.Call (.Attribute (.Name x p) m apos) (e :: es) [] cpos) (mtt i fr step) := by
  refine PE_imp (pe_bm PySem.F.plainAttrs_list slot hty hr (pe_var hN hv hd hcd) ha hbase hfew hline hs hplain) fun σ H Q hq => ?_
  obtain ⟨ok, ρ, w, h⟩ := hq
  unfold mtt at h
  cases e0 : ownL i ρ with
  | none => rw [bnd_none e0] at h; exact h.elim
  | some t =>
    obtain ⟨rfl, xs, hi⟩ := ownL_inv e0
    rw [bnd_ok e0] at h
    obtain ⟨q, eq, o, nk, _⟩ := w.own i _ hi
    obtain ⟨vs, hvs, _⟩ := o
    refine ⟨_, eq, .inl ⟨rfl, vs, .inl (.inl hvs)⟩, ok, ρ, w, (Rs.bnd (RA := relA X.K) h).mono fun ws H1 hq => ?_⟩
    obtain ⟨ok1, ρ1, ds, w1, s1, r1, h1⟩ := hq
    exact mut_end hm w1 eq r1 h1
theorem ev_mut0 {i : Nat} {x m : Str} {id : String} {p apos cpos : Pos} {r : V → List V → Hp → VK → Prop} {step : List D → List D → Option (D × List D)} (hN : X.N[i]? = some x) (hv : Vis X.env.scope x)
    (slot : PySem.Slot "list" m id) (hty : typeOf (.builtin id) = pure (.type "method_descriptor")) (hr : MtR X id r) (hm : OwM X.K r step)
    (hd : (x == ("__debug__" : Str)) = false := by decide) (hcd : (x == ("__classdict__" : Str)) = false := by decide)
    (hbase : attributeBase (.Name x p) m X.env (eval (.Name x p) X.env) = eval (.Name x p) X.env := by rfl)
    (hline : (apos.endLine == cpos.line) = true := by rfl) :
    EV X g E (.Call (.Attribute (.Name x p) m apos) [] [] cpos) (mtt i (prt []) step) := by
  refine PE_imp (pe_bm0 PySem.F.plainAttrs_list slot hty hr (pe_var hN hv hd hcd) hbase hline) fun σ H Q hq => ?_
  obtain ⟨ok, ρ, w, h⟩ := hq
  unfold mtt at h
  cases e0 : ownL i ρ with
  | none => rw [bnd_none e0] at h; exact h.elim
  | some t =>
    obtain ⟨rfl, xs, hi⟩ := ownL_inv e0
    rw [bnd_ok e0] at h
    obtain ⟨q, eq, o, nk, _⟩ := w.own i _ hi
    obtain ⟨vs, hvs, _⟩ := o
    exact ⟨_, eq, .inl ⟨rfl, vs, .inl (.inl hvs)⟩, mut_end hm w eq .nil h⟩
def stApp : List D → List D → Option (D × List D)
  | xs, [y] => if xs.length < sizeLine then some (.non, xs ++ [y]) else none
  | _, _ => none
theorem om_append {K : PySem.W.Frag} : OwM K rAppend stApp := by
  intro ok H q vs xs ws ds d xs' Q hv rv rw' hs k
  cases rw' with
  | nil => cases hs
  | cons r1 rr =>
    cases rr with
    | nil =>
      rename_i y0 d0
      have hs : (if xs.length < sizeLine then some (D.non, xs ++ [d0]) else none) = some (d, xs') := hs
      split at hs
      · cases hs
        exact ⟨q, vs, _, rfl, rfl, hv, by rw [rv.length]; assumption, k _ _ (rv.app (.cons r1 .nil)) .non⟩
      · cases hs
    | cons _ _ => cases hs
def stExt (xs : List D) : List D → Option (D × List D)
  | [x] => match x with
    | .lst ys => if xs.length + ys.length ≤ sizeLine then some (.non, xs ++ ys) else none
    | _ => none
  | _ => none
theorem om_extend {K : PySem.W.Frag} : OwM K rExtend stExt := by
  intro ok H q vs xs ws ds d xs' Q hv rv rw' hs k
  cases rw' with
  | nil => cases hs
  | cons r1 rr =>
    cases rr with
    | nil =>
      cases r1 with
      | lst h1 k1 t1 =>
        rename_i a us ys
        have hs : (if xs.length + ys.length ≤ sizeLine then some (D.non, xs ++ ys) else none) = some (d, xs') := hs
        split at hs
        · cases hs
          exact ⟨q, a, vs, us, rfl, rfl, hv, h1, by rw [rv.length, t1.length]; assumption, k _ _ (rv.app t1) .non⟩
        · cases hs
      | _ => cases hs
    | cons _ _ => cases hs
def stRev : List D → List D → Option (D × List D)
  | xs, [] => some (.non, xs.reverse)
  | _, _ => none
theorem om_reverse {K : PySem.W.Frag} : OwM K rReverse stRev := by
  intro ok H q vs xs ws ds d xs' Q hv rv rw' hs k
  cases rw' with
  | nil => cases hs; exact ⟨q, vs, rfl, rfl, hv, k _ _ rv.rev .non⟩
  | cons r1 rr => cases hs
theorem Reps.erase {K : PySem.W.Frag} {ok : Addr → Prop} {H : Hp} : ∀ {vs : List V} {ds : List D} (n : Nat), Reps K ok H vs ds → Reps K ok H (vs.eraseIdx n) (ds.eraseIdx n)
  | _, _, _, .nil => .nil
  | _, _, 0, .cons _ t => t
  | _, _, n + 1, .cons a t => .cons a (Reps.erase n t)
/-- xs.pop(i) -/
def stPop (xs : List D) : List D → Option (D × List D)
  | [x] => match x with
    | .int i => if -(2 ^ 63) ≤ i ∧ i < 2 ^ 63 then (seqIndex? i xs.length).bind fun k => (xs[k]?).map fun y => (y, xs.eraseIdx k) else none
    | _ => none
  | _ => none
theorem om_pop {K : PySem.W.Frag} : OwM K rPopAt stPop := by
  intro ok H q vs xs ws ds d xs' Q hv rv rw' hs k
  cases rw' with
  | nil => cases hs
  | cons r1 rr =>
    cases rr with
    | nil =>
      cases r1 with
      | int i =>
        have hs : (if -(2 ^ 63) ≤ i ∧ i < 2 ^ 63 then (seqIndex? i xs.length).bind (fun k => (xs[k]?).map fun y => (y, xs.eraseIdx k)) else none) = some (d, xs') := hs
        split at hs
        · rename_i hz
          cases e1 : seqIndex? i xs.length with
          | none => rw [e1] at hs; cases hs
          | some j =>
            rw [e1] at hs
            have hs : (xs[j]?).map (fun y => (y, xs.eraseIdx j)) = some (d, xs') := hs
            cases e2 : xs[j]? with
            | none => rw [e2] at hs; cases hs
            | some y =>
              rw [e2] at hs
              cases hs
              obtain ⟨v, ev, rv2⟩ := rv.getD e2
              exact ⟨q, vs, i, j, v, rfl, rfl, hv, hz.1, hz.2, by rw [rv.length]; exact e1, ev, k _ _ (rv.erase j) rv2⟩
        · cases hs
      | _ => cases hs
    | cons _ _ => cases hs
end
end Pu
/-! Defs and their calls. -/
namespace Pu
open PySem PySem.Spec PyProof.Rows L2 Kv
/-- what the parameters hold at the end: those that were lent -/
def outs : En → En → En
  | .own _ :: as, s :: ρ => s :: outs as ρ
  | _ :: as, _ :: ρ => .un :: outs as ρ
  | _ :: as, [] => .un :: outs as []
  | [], _ => []
/-- every thing that is lent is lent at a place in B -/
def lent (B : List Nat) : Nat → En → Bool
  | _, [] => true
  | i, .own _ :: as => decide (i ∈ B) && lent B (i + 1) as
  | i, _ :: as => lent B (i + 1) as
/-- a def in the tree world: n names in all, those in B never given anew -/
def fnP (n : Nat) (B : List Nat) (body : S) : P R := fun as =>
  if lent B 0 as = true then match body (as ++ List.replicate (n - as.length) .un) with
    | some (.nx ρ) => some (.ok (.val .non) (outs as ρ))
    | some (.rt r ρ) => some (.ok r (outs as ρ))
    | some (.er c ns ds ρ) => some (.er c ns ds (outs as ρ))
    | _ => none
  else none
/-- the promise of a def in the tree world -/
def spP (K : PySem.W.Frag) (n : Nat) (F : P R) : Sp := fun vs H Q E => ∃ ok as, vs.length = n ∧ Wf K ⟨H, List.range n⟩ ok as (vs.map some) H ∧ Rs K ⟨H, List.range n⟩ (fun _ => E) (relR K) (vs.map some) as ok H (F as) Q
theorem outs_length : ∀ (as ρ : En), (outs as ρ).length = as.length
  | [], _ => by unfold outs; rfl
  | .own _ :: as, s :: ρ => congrArg (· + 1) (outs_length as ρ)
  | .un :: as, s :: ρ => congrArg (· + 1) (outs_length as ρ)
  | .val _ :: as, s :: ρ => congrArg (· + 1) (outs_length as ρ)
  | .own _ :: as, [] => congrArg (· + 1) (outs_length as [])
  | .un :: as, [] => congrArg (· + 1) (outs_length as [])
  | .val _ :: as, [] => congrArg (· + 1) (outs_length as [])
theorem outs_get : ∀ {as ρ : En} {j : Nat} {s : Slot}, (outs as ρ)[j]? = some s → s ≠ .un → ρ[j]? = some s ∧ ∃ d, as[j]? = some (.own d)
  | [], _, j, s, h, _ => by unfold outs at h; simp at h
  | .own d :: as, t :: ρ, 0, s, h, _ => by
    have h : some t = some s := h
    cases h
    exact ⟨rfl, d, rfl⟩
  | .own d :: as, t :: ρ, j + 1, s, h, n => outs_get (as := as) (ρ := ρ) (j := j) h n
  | .un :: as, t :: ρ, 0, s, h, n => by cases h; exact absurd rfl n
  | .un :: as, t :: ρ, j + 1, s, h, n => outs_get (as := as) (ρ := ρ) (j := j) h n
  | .val _ :: as, t :: ρ, 0, s, h, n => by cases h; exact absurd rfl n
  | .val _ :: as, t :: ρ, j + 1, s, h, n => outs_get (as := as) (ρ := ρ) (j := j) h n
  | .own d :: as, [], 0, s, h, n => by cases h; exact absurd rfl n
  | .own d :: as, [], j + 1, s, h, n => by
    obtain ⟨z, _⟩ := outs_get (as := as) (ρ := []) (j := j) h n
    simp at z
  | .un :: as, [], 0, s, h, n => by cases h; exact absurd rfl n
  | .un :: as, [], j + 1, s, h, n => by
    obtain ⟨z, _⟩ := outs_get (as := as) (ρ := []) (j := j) h n
    simp at z
  | .val _ :: as, [], 0, s, h, n => by cases h; exact absurd rfl n
  | .val _ :: as, [], j + 1, s, h, n => by
    obtain ⟨z, _⟩ := outs_get (as := as) (ρ := []) (j := j) h n
    simp at z
theorem lent_at {B : List Nat} : ∀ {as : En} {i j : Nat} {d : D}, lent B i as = true → as[j]? = some (.own d) → i + j ∈ B
  | [], _, j, d, _, h => by simp at h
  | s :: as, i, 0, d, hl, h => by
    have h : some s = some (.own d) := h
    cases h
    have hl : (decide (i ∈ B) && lent B (i + 1) as) = true := hl
    rw [Bool.and_eq_true] at hl
    exact of_decide_eq_true hl.1
  | s :: as, i, j + 1, d, hl, h => by
    have h2 : lent B (i + 1) as = true := by
      cases s with
      | own _ =>
        have hl : (decide (i ∈ B) && lent B (i + 1) as) = true := hl
        rw [Bool.and_eq_true] at hl
        exact hl.2
      | un => exact hl
      | val _ => exact hl
    have := lent_at (as := as) (j := j) h2 h
    rw [show i + (j + 1) = i + 1 + j by omega]
    exact this
theorem pad_get {as : En} {m j : Nat} {s : Slot} (h : (as ++ List.replicate m Slot.un)[j]? = some s) (n : s ≠ .un) : as[j]? = some s := by
  by_cases hj : j < as.length
  · rw [List.getElem?_append_left hj] at h; exact h
  · rw [List.getElem?_append_right (by omega), List.getElem?_replicate] at h
    split at h
    · cases h; exact absurd rfl n
    · cases h
theorem start_get {N : List Str} {vs : List V} {j : Nat} (hj : j < vs.length) : (start N vs)[j]? = (vs.map some)[j]? := by
  unfold L2.start
  rw [List.getElem?_append_left (by rw [List.length_map]; exact hj)]
section
variable {P' : Program} {w : World} {K : PySem.W.Frag} {mg : Str → Option Value} {base : Heap} {CX : CXT}
/-- a def's promise by its body, where no repr is under way at the call, whatever may be raised -/
theorem okGX {x qual : Str} {st : Stmt} {f : Addr} {fd : FuncData} {N ps : List Str} {k : Nat} {sp : Sp}
    (F : Fun K x qual st f fd) (S : FnScope N ps (defScope st))
    (many : ∀ vs H Q E, sp vs H Q E → vs.length = ps.length)
    (hb : ∀ (cdv : Value) (A : Around) (fr : List Env) (s : Shared) (H : Hp) (vs : List V) (Q : VK) (E : XK),
      A.guards = some [] →
      Room k (A.deeper (envOfC qual (defScope st) s.heap.objs.size f cdv)) → sp vs H Q E →
      ∃ t, PSs (cxOf CX P' w K mg base N qual (defScope st) f cdv A fr s H E) (defBody st) t ∧
        t { nx := fun _ H' => Q .non H', rt := Q } (start N vs) H) :
    FnG P' w K mg base CX (k + 1) f fd ps sp := by
  obtain ⟨oc, od, kV, doc, pm, an, cdv, ct, osl, rfl, lk, hcd⟩ := F.ex
  refine ⟨many, ?_⟩
  intro A fr s H ar us vs Q E hg hr e0 hbd rv hsp
  have kin : K.In s.heap :=
    e0.mod.kin.keeps fun b o e => (e0.bs b o e).1
  have nol : s.heap.NoLimit :=
    e0.mod.nolimit.keeps fun b o e => (e0.bs b o e).1
  refine codeAny_call_function hr.depth (kin _ _ lk) rfl S.co S.gen rfl
    (PySem.W.codeRec_of kin hcd) (hbd _ _ _ _ ?_)
  refine wpAny_newFunctionEnv_cells S.kind (fun y hy => ?_) fun env he s1 ic => ?_
  · obtain ⟨n, v⟩ := y
    rcases S.par n (List.of_mem_zip hy).1 with q | q
    · exact Or.inl q
    · exact Or.inr ⟨q, PySem.W.cellsFrom_some _ _ _ (Or.inl q)⟩
  · subst he
    refine ⟨nol.keeps ic.toInCall.keep, codeAny_func ?_⟩
    obtain ⟨t, ht, hq⟩ := hb cdv A fr s H vs Q E hg (hr.deeper _) hsp
    have I : Inv (cxOf CX P' w K mg base N qual (defScope st) f cdv A fr s H E) [] (start N vs) H s1 :=
      inv_start S hr.hd e0 (many _ _ _ _ hsp) rv ic
    refine wpAny_mono (ht.run [] s1 (start N vs) H _ I hq) (fun fl s2 hs => ?_) (fun e s2 hs => hs)
    cases fl with
    | brk => exact hs.elim fun _ h => h.elim fun _ h => h.2.elim
    | cont => exact hs.elim fun _ h => h.elim fun _ h => h.2.elim
    | ret u =>
      obtain ⟨v, σ2, H2, J, r2, q2⟩ := hs
      exact ⟨v, H2, J.os, J.bare, J.base, J.hok, r2, q2⟩
    | next =>
      obtain ⟨σ2, H2, J, q2⟩ := hs
      exact ⟨V.non, H2, J.os, J.bare, J.base, J.hok, rfl, q2⟩
theorem fn_enter {N : List Str} {B : List Nat} {n : Nat} {ok : Addr → Prop} {as : En} {vs : List V} {H : Hp} (hn : vs.length = n) (hN : n ≤ N.length) (w : Wf K ⟨H, List.range n⟩ ok as (vs.map some) H) (hl : lent B 0 as = true) :
    Wf K ⟨H, B⟩ ok (as ++ List.replicate (N.length - as.length) .un) (start N vs) H ∧ ∀ a, wrs (as ++ List.replicate (N.length - as.length) .un) (start N vs) a ↔ wrs as (vs.map some) a := by
  have la : as.length = vs.length := by have := w.len; rw [List.length_map] at this; exact this.symm
  have lt : ∀ {j : Nat} {s : Slot}, as[j]? = some s → j < vs.length := fun h => by rw [← la]; exact (List.getElem?_eq_some_iff.mp h).1
  refine ⟨⟨?_, w.fc, w.h0, fun i d h => ?_, fun i d h => ?_, fun i j d e q h1 h2 e1 e2 => ?_⟩, fun a => ⟨fun h => ?_, fun h => ?_⟩⟩
  · unfold L2.start
    rw [List.length_append, List.length_map, List.length_replicate, List.length_append, List.length_replicate, la]
  · have h := pad_get h (fun z => by cases z)
    rw [start_get (lt h)]
    exact w.val i d h
  · have h := pad_get h (fun z => by cases z)
    rw [start_get (lt h)]
    obtain ⟨q, e, o, nk, _⟩ := w.own i d h
    have := lent_at hl h
    rw [Nat.zero_add] at this
    exact ⟨q, e, o, nk, .inl this⟩
  · have h1 := pad_get h1 (fun z => by cases z)
    have h2 := pad_get h2 (fun z => by cases z)
    rw [start_get (lt h1)] at e1
    rw [start_get (lt h2)] at e2
    exact w.apart i j d e q h1 h2 e1 e2
  · obtain ⟨i, d, h1, h2⟩ := h
    have h1 := pad_get h1 (fun z => by cases z)
    rw [start_get (lt h1)] at h2
    exact ⟨i, d, h1, h2⟩
  · obtain ⟨i, d, h1, h2⟩ := h
    exact ⟨i, d, by rw [List.getElem?_append_left (by rw [la]; exact lt h1)]; exact h1, by rw [start_get (lt h1)]; exact h2⟩
/-- at the end of the body, back to the caller -/
theorem fn_leave {N : List Str} {B : List Nat} {n : Nat} {ok ok' : Addr → Prop} {as ρ' : En} {vs : List V} {H H' : Hp} {σ' : L2.St} (hn : vs.length = n) (w : Wf K ⟨H, List.range n⟩ ok as (vs.map some) H) (hl : lent B 0 as = true)
    (hw : ∀ a, wrs (as ++ List.replicate (N.length - as.length) .un) (start N vs) a ↔ wrs as (vs.map some) a)
    (w' : Wf K ⟨H, B⟩ ok' ρ' σ' H') (s : Sy ⟨H, B⟩ (start N vs) (as ++ List.replicate (N.length - as.length) .un) ok H σ' ρ' ok' H') :
    Wf K ⟨H, List.range n⟩ ok' (outs as ρ') (vs.map some) H' ∧ Sx (vs.map some) as ok H (outs as ρ') ok' H' ∧ (∀ (j : Nat) (d : D), (outs as ρ')[j]? = some (.own d) → ρ'[j]? = some (.own d) ∧ σ'[j]? = (vs.map some)[j]?) := by
  have la : as.length = vs.length := by have := w.len; rw [List.length_map] at this; exact this.symm
  have og : ∀ {j : Nat} {s : Slot}, (outs as ρ')[j]? = some s → s ≠ .un → ρ'[j]? = some s ∧ σ'[j]? = (vs.map some)[j]? ∧ j < n ∧ ∃ d, as[j]? = some (.own d) := fun {j s'} h ns => by
    obtain ⟨h1, d, h2⟩ := outs_get h ns
    have hj : j < vs.length := by rw [← la]; exact (List.getElem?_eq_some_iff.mp h2).1
    have hB := lent_at hl h2
    rw [Nat.zero_add] at hB
    exact ⟨h1, by rw [s.bor j hB, start_get hj], by omega, d, h2⟩
  refine ⟨⟨by rw [outs_length, la, List.length_map], w'.fc, w'.h0, fun i d h => ?_, fun i d h => ?_, fun i j d e q h1 h2 e1 e2 => ?_⟩, ⟨s.fr, fun a o ha na => s.keep a o ha fun z => na ((hw a).mp z), fun a ha => ?_, fun a o ha ka => (s.grow a o ha ka).imp id (hw a).mp⟩, fun j d h => ?_⟩
  · obtain ⟨h1, h2, _⟩ := og h (fun z => by cases z)
    rw [← h2]
    exact w'.val i d h1
  · obtain ⟨h1, h2, h3, _⟩ := og h (fun z => by cases z)
    obtain ⟨q, e, o, nk, _⟩ := w'.own i d h1
    exact ⟨q, by rw [← h2]; exact e, o, nk, .inl (List.mem_range.mpr h3)⟩
  · obtain ⟨h3, h4, _⟩ := og h1 (fun z => by cases z)
    obtain ⟨h5, h6, _⟩ := og h2 (fun z => by cases z)
    exact w'.apart i j d e q h3 h5 (by rw [h4]; exact e1) (by rw [h6]; exact e2)
  · obtain ⟨j, d, h1, h2⟩ := ha
    obtain ⟨_, _, _, d', h4⟩ := og h1 (fun z => by cases z)
    exact ⟨j, d', h4, h2⟩
  · obtain ⟨h1, h2, _⟩ := og h (fun z => by cases z)
    exact ⟨h1, h2⟩
theorem fn_pure {x qual : Str} {st : Stmt} {f : Addr} {fd : FuncData} {N ps : List Str} {k : Nat} {B : List Nat} {body : S} (F : Fun K x qual st f fd) (S : FnScope N ps (defScope st))
    (hb : ∀ (cdv : Value) (A : Around) (fr : List Env) (s : Shared) (H : Hp) (E : XK), A.guards = some [] → Room k (A.deeper (envOfC qual (defScope st) s.heap.objs.size f cdv)) →
      ESs (cxOf CX P' w K mg base N qual (defScope st) f cdv A fr s H E) ⟨H, B⟩ (fun _ => E) (defBody st) body) :
    FnG P' w K mg base CX (k + 1) f fd ps (spP K ps.length (fnP N.length B body)) := by
  have hpl : ps.length ≤ N.length := by have := congrArg List.length S.pre; rw [List.length_take] at this; omega
  refine okGX F S (fun vs H Q E h => ?_) fun cdv A fr s H vs Q E hg hr hsp => ⟨_, hb cdv A fr s H E hg hr, ?_⟩
  · obtain ⟨ok, as, hl, _⟩ := h
    exact hl
  · obtain ⟨ok, as, hn, w0, h⟩ := hsp
    unfold fnP at h
    split at h
    · rename_i hl
      obtain ⟨w1, hw⟩ := fn_enter (N := N) hn hpl w0 hl
      refine ⟨ok, _, w1, ?_⟩
      have la : as.length = vs.length := by have := w0.len; rw [List.length_map] at this; exact this.symm
      cases eb : body (as ++ List.replicate (N.length - as.length) .un) with
      | none => rw [eb] at h; exact h
      | some fl =>
        rw [eb] at h
        cases fl with
        | nx ρ' =>
          intro σ' H' ok' w' s'
          obtain ⟨w2, s2, _⟩ := fn_leave hn w0 hl hw w' s'
          exact h .non H' ok' w2 s2 .non
        | rt r ρ' =>
          intro v σ' H' ok' w' s' r'
          obtain ⟨w2, s2, hs⟩ := fn_leave hn w0 hl hw w' s'
          refine h v H' ok' w2 s2 ?_
          cases r with
          | val d => exact r'
          | own d =>
            obtain ⟨q, e, o, nk, n0, np⟩ := r'
            refine ⟨q, e, o, nk, n0, fun j e' hj z => ?_⟩
            obtain ⟨h1, h2⟩ := hs j e' hj
            exact np j e' h1 (by rw [h2]; exact z)
        | bk ρ' => exact h.elim
        | ct ρ' => exact h.elim
        | er c ns ds ρ' =>
          intro dx fs σ' H' ok' w' s' e1 e2 e3
          obtain ⟨w2, s2, _⟩ := fn_leave hn w0 hl hw w' s'
          exact h dx fs H' ok' w2 s2 e1 e2 e3
    · exact h.elim
end
/-! ### calls -/
section
variable {X : Cx} {g : Gx} {E : Wx} {CX : CXT} {k : Nat} {f C : Addr} {fd : FuncData} {ps : List Str} {sp : Sp} {x m : Str} {p pos apos : Pos} {e o : Expr} {es : List Expr} {ta : TE} {t : TA}
theorem runGS {pins : List (Addr × Obj)} {σ : L2.St} {H : Hp} {s : Shared} {Q : VK} {us : List Value} {vs : List V} (F : FnG X.prog X.w X.K X.mg X.base CX k f fd ps sp) (hgd : X.A.guards = some []) (hr : Room k X.A) (hb : Binds X.K fd ps []) (hx : PassesAt CX X σ (E σ))
    (I : Inv X pins σ H s) (r : Vals vs us) (h : sp vs H Q (E σ)) : wpAny (model X.prog X.w) X.A (call (.ref f) us) (L2.EP X pins σ Q) X.xe s := by
  have hl : us.length = ps.length := by rw [← r.length]; exact F.many _ _ _ _ h
  have b := hb s us I.kIn (by rw [List.append_nil]; exact hl)
  rw [List.append_nil] at b
  refine wpAny_call (codeAny_mono (F.goes X.A X.stack s H ⟨us, []⟩ us vs Q (E σ) hgd hr I.env0 b r h) fun r s' hq => ?_)
  cases r with
  | error e => exact hx pins H s e s' I hq
  | ok fl =>
    cases fl with
    | ret u => exact I.after hq
    | next => exact False.elim hq
    | brk => exact False.elim hq
    | cont => exact False.elim hq
theorem pe_callGS (F : FnG X.prog X.w X.K X.mg X.base CX k f fd ps sp) (hgd : X.A.guards = some []) (hr : Room k X.A) (hg : Gl X x) (hm : X.mg x = some (.ref f)) (hk : PySem.W.keepIn X.K (.ref f) = true) (hb : Binds X.K fd ps []) (hx : ∀ σ, PassesAt CX X σ (E σ))
    (ha : PA X (e :: es) t) (hdb : (x == ("__debug__" : Str)) = false := by decide) (he : starEach (e :: es) X.env = (false, eval e X.env) :: starEach es X.env := by rfl) (hpl : (backTo pos (starEach es X.env)).any (·.1) = false := by rfl) :
    PE X (.Call (.Name x p) (e :: es) [] pos) (tCallS sp E t) := by
  refine ⟨fun pins s σ H Q I h => ?_⟩
  refine wpAny_Call_Name_kw (ld_glob I hg hm ?_ hdb)
  refine PySem.W.callWith_K (h₀ := X.base) I.ok.mod.kin hk (thn (ha.run pos pins s σ H _ I h) fun us s1 ⟨vs, H1, I1, r, q⟩ => ⟨I1.kIn, ?_⟩) he hpl
  exact runGS F hgd hr hb (hx σ) I1 r q
def tMethS (C : Addr) (m : Str) (sp : Sp) (E : Wx) (ta : TE) (t : TA) : TE := fun σ H Q => ta σ H fun x H1 => ∃ a dx fs, x = .ref a ∧ H1 a = some (.ins C dx fs) ∧ fs.lookup m = none ∧ t σ H1 fun vs H2 => sp (x :: vs) H2 Q (E σ)
theorem pe_methGS {pl : Sem Bool} (he : PE X o ta) (c : Cls X.K C) (hm : Meth X.K C m f) (F : FnG X.prog X.w X.K X.mg X.base CX k f fd ps sp) (hgd : X.A.guards = some []) (hr : Room k X.A) (hb : Binds X.K fd ps []) (hx : ∀ σ, PassesAt CX X σ (E σ)) (ha : PA X (e :: es) t)
    (hst : starEach (e :: es) X.env = (false, eval e X.env) :: starEach es X.env := by rfl) (hpl : (backTo pos (starEach es X.env)).any (·.1) = false := by rfl)
    (ht : eval (.Call (.Attribute o m apos) (e :: es) [] pos) X.env = (do
      let ov ← eval o X.env
      standAt apos.atName
      let (f, first) ← holding [ov] (getMethod ov m pl)
      callWith pos f first (backTo pos (starEach (e :: es) X.env)) (backToKw pos (keywordEach [] X.env))) := by rfl) :
    PE X (.Call (.Attribute o m apos) (e :: es) [] pos) (tMethS C m sp E ta t) := by
  refine ⟨fun pins s σ H Q I h => ?_⟩
  refine PySem.W.methodCall_KW (pl := pl) (thn (he.run pins s σ H _ I h) fun u s1 ⟨x, H1, I1, rx, a, dx, fs, ex, ea, l, q⟩ => ?_) ht
  subst ex
  obtain rfl : u = Value.ref a := rx
  refine getmeth_ok I1 ea c hm l ?_
  refine PySem.W.callWith_K (first := [.ref a]) (h₀ := X.base) I.ok.mod.kin hm.kp (thn (ha.run pos pins s1 σ H1 _ I1 q) fun us s2 ⟨vs, H2, I2, r, q2⟩ => ⟨I2.kIn, ?_⟩) hst hpl
  exact runGS (us := .ref a :: us) (vs := .ref a :: vs) F hgd hr hb (hx σ) I2 (.cons rfl r) q2
theorem pe_methGS0 {pl : Sem Bool} (he : PE X o ta) (c : Cls X.K C) (hm : Meth X.K C m f) (F : FnG X.prog X.w X.K X.mg X.base CX k f fd ps sp) (hgd : X.A.guards = some []) (hr : Room k X.A) (hb : Binds X.K fd ps []) (hx : ∀ σ, PassesAt CX X σ (E σ))
    (ht : eval (.Call (.Attribute o m apos) [] [] pos) X.env = (do
      let ov ← eval o X.env
      standAt apos.atName
      let (f, first) ← holding [ov] (getMethod ov m pl)
      callWith pos f first (backTo pos (starEach [] X.env)) (backToKw pos (keywordEach [] X.env))) := by rfl) :
    PE X (.Call (.Attribute o m apos) [] [] pos) (tMethS C m sp E ta tNil) := by
  refine ⟨fun pins s σ H Q I h => ?_⟩
  refine PySem.W.methodCall_KW (pl := pl) (thn (he.run pins s σ H _ I h) fun u s1 ⟨x, H1, I1, rx, a, dx, fs, ex, ea, l, q⟩ => ?_) ht
  subst ex
  obtain rfl : u = Value.ref a := rx
  refine getmeth_ok I1 ea c hm l ?_
  exact PySem.W.callWith_K0 (first := [.ref a]) I1.kIn hm.kp (runGS (us := [.ref a]) (vs := [.ref a]) F hgd hr hb (hx σ) I1 (.cons rfl .nil) q)
/-! ### all arguments values -/
@[reducible] def vals (ds : List D) : En := ds.map .val
def app (F : P R) (ds : List D) : P R := fun ρ => match F (vals ds) with
  | none => none
  | some (.ok r _) => some (.ok r ρ)
  | some (.er c ns es _) => some (.er c ns es ρ)
theorem vals_own {ds : List D} {j : Nat} {d : D} : (vals ds)[j]? ≠ some (.own d) := fun h => by
  unfold vals at h
  rw [List.getElem?_map] at h
  cases e : ds[j]? with
  | none => rw [e] at h; cases h
  | some x => rw [e] at h; cases h
theorem wf_vals {K : PySem.W.Frag} {ok : Addr → Prop} {H : Hp} {vs : List V} {ds : List D} {n : Nat} (fc : ∀ a, H a = none → ok a) (r : Reps K ok H vs ds) : Wf K ⟨H, List.range n⟩ ok (vals ds) (vs.map some) H :=
  ⟨by unfold vals; rw [List.length_map, List.length_map, r.length], fc, fun _ h => h, fun i d h => by
    unfold vals at h
    rw [List.getElem?_map] at h
    cases e : ds[i]? with
    | none => rw [e] at h; cases h
    | some x =>
      rw [e] at h
      cases h
      obtain ⟨v, ev, rv⟩ := r.getD e
      exact ⟨v, by rw [List.getElem?_map, ev]; rfl, rv⟩, fun i d h => absurd h vals_own, fun i j d e q h => absurd h vals_own⟩
/-- the callee's promise, used -/
theorem app_ok {K : PySem.W.Frag} {n : Nat} {F : P R} {ok : Addr → Prop} {ρ : En} {σ : L2.St} {H : Hp} {vs : List V} {ds : List D} {Q : VK} (w : Wf K g ok ρ σ H) (r : Reps K ok H vs ds) (hn : vs.length = n) (h : Rs K g E (relR K) σ ρ ok H (app F ds ρ) Q) : spP K n F vs H Q (E σ) := by
  refine ⟨ok, vals ds, hn, wf_vals w.fc r, ?_⟩
  have nw : ∀ a, ¬ wrs (vals ds) (vs.map some) a := fun a ⟨i, d, h1, _⟩ => vals_own h1
  have up : ∀ {as' : En} {ok' : Addr → Prop} {H' : Hp}, (∀ a, H' a = none → ok' a) → Sx (vs.map some) (vals ds) ok H as' ok' H' → Wf K g ok' ρ σ H' ∧ Sx σ ρ ok H ρ ok' H' := fun {as' ok' H'} fc s => by
    refine ⟨w.step s.fr fc fun i d q h1 h2 => ?_, ⟨s.fr, fun a o ha _ => s.keep a o ha (nw a), fun _ h => h, fun a o ha ka => (s.grow a o ha ka).elim .inl fun z => absurd z (nw a)⟩⟩
    obtain ⟨q', e', o, nk, _⟩ := w.own i d h1
    rw [h2] at e'
    cases e'
    obtain ⟨u, hu, _⟩ := o.there
    refine ⟨by rw [hu]; exact (s.keep q u hu (nw q)).same nk, fun z => ?_⟩
    rcases s.grow q u hu z with z | z
    · exact nk z
    · exact nw q z
  unfold app at h
  cases e : F (vals ds) with
  | none => rw [e] at h; exact h
  | some y =>
    rw [e] at h
    cases y with
    | ok r' as' =>
      intro v H' ok' w' s' r1
      obtain ⟨w2, s2⟩ := up w'.fc s'
      refine h v H' ok' w2 s2 ?_
      cases r' with
      | val d => exact r1
      | own d =>
        obtain ⟨q, e1, o1, nk, n0, _⟩ := r1
        refine ⟨q, e1, o1, nk, n0, fun j d' hj z => ?_⟩
        obtain ⟨q', e2, o2, _⟩ := w.own j d' hj
        rw [z] at e2
        cases e2
        obtain ⟨u, hu, _⟩ := o2.there
        rw [n0] at hu
        cases hu
    | er c ns es as' =>
      intro dx fs H' ok' w' s' e1 e2 e3
      obtain ⟨w2, s2⟩ := up w'.fc s'
      exact h dx fs H' ok' w2 s2 e1 e2 e3
theorem er_call {n : Nat} {F : P R} {fr : P (List D)} (G : FnG X.prog X.w X.K X.mg X.base CX k f fd ps (spP X.K n F)) (hn : ps.length = n) (hgd : X.A.guards = some []) (hr : Room k X.A) (hg : Gl X x) (hm : X.mg x = some (.ref f)) (hk : PySem.W.keepIn X.K (.ref f) = true) (hb : Binds X.K fd ps []) (hx : ∀ σ, PassesAt CX X σ (E σ))
    (ha : EA X g E (e :: es) fr) (hdb : (x == ("__debug__" : Str)) = false := by decide) (he : starEach (e :: es) X.env = (false, eval e X.env) :: starEach es X.env := by rfl) (hpl : (backTo pos (starEach es X.env)).any (·.1) = false := by rfl) :
    ER X g E (.Call (.Name x p) (e :: es) [] pos) (bnd fr fun ds => if ds.length = n then app F ds else fun _ => none) := by
  refine PE_imp (pe_callGS G hgd hr hg hm hk hb hx ha hdb he hpl) fun σ H Q hq => ?_
  obtain ⟨ok, ρ, w, h⟩ := hq
  refine ⟨ok, ρ, w, (Rs.bnd (RA := relA X.K) h).mono fun vs H1 hq => ?_⟩
  obtain ⟨ok1, ρ1, ds, w1, s1, r1, h1⟩ := hq
  by_cases hd : ds.length = n
  · rw [if_pos hd] at h1
    exact app_ok w1 r1 (by rw [Reps.length r1]; exact hd) h1
  · rw [if_neg hd] at h1
    exact h1.elim
theorem lookup_none {K : PySem.W.Frag} {ok : Addr → Prop} {H : Hp} (m : Str) {fs : List (Str × V)} (h : m ∉ fs.map (·.1)) : fs.lookup m = none := by
  induction fs with
  | nil => rfl
  | cons p r ih =>
    obtain ⟨k, v⟩ := p
    rw [List.lookup_cons]
    have e : (m == k) = false := beq_eq_false_iff_ne.mpr fun z => h (by rw [z]; exact List.mem_cons_self ..)
    rw [e]
    exact ih fun z => h (List.mem_cons_of_mem _ z)
/-- is it an object of the class at C without a field m -/
def isObj (C : Addr) (m : Str) : D → Bool
  | .obj C' ns _ => decide (C' = C) && decide (m ∉ ns)
  | _ => false
theorem isObj_rep {K : PySem.W.Frag} {ok : Addr → Prop} {H : Hp} {v : V} {d : D} (r : Rep K ok H v d) (h : isObj C m d = true) : ∃ a dx fs, v = .ref a ∧ H a = some (.ins C dx fs) ∧ fs.lookup m = none := by
  cases r with
  | obj ho rs =>
    have h : (decide (_ = C) && decide (m ∉ _)) = true := h
    rw [Bool.and_eq_true] at h
    have e := of_decide_eq_true h.1
    subst e
    exact ⟨_, _, _, rfl, ho, lookup_none (K := K) (ok := ok) (H := H) m (of_decide_eq_true h.2)⟩
  | _ => cases h
theorem er_meth {n : Nat} {F : P R} {fo : P D} {fr : P (List D)} {pl : Sem Bool} (ho : EV X g E o fo) (c : Cls X.K C) (hm : Meth X.K C m f) (G : FnG X.prog X.w X.K X.mg X.base CX k f fd ps (spP X.K n F)) (hgd : X.A.guards = some []) (hr : Room k X.A) (hb : Binds X.K fd ps []) (hx : ∀ σ, PassesAt CX X σ (E σ)) (ha : EA X g E (e :: es) fr)
    (hst : starEach (e :: es) X.env = (false, eval e X.env) :: starEach es X.env := by rfl) (hpl : (backTo pos (starEach es X.env)).any (·.1) = false := by rfl)
    (ht : eval (.Call (.Attribute o m apos) (e :: es) [] pos) X.env = (do
      let ov ← eval o X.env
      standAt apos.atName
      let (f, first) ← holding [ov] (getMethod ov m pl)
      callWith pos f first (backTo pos (starEach (e :: es) X.env)) (backToKw pos (keywordEach [] X.env))) := by rfl) :
    ER X g E (.Call (.Attribute o m apos) (e :: es) [] pos) (bnd fo fun d => if isObj C m d = true then bnd fr fun ds => if ds.length + 1 = n then app F (d :: ds) else fun _ => none else fun _ => none) := by
  refine PE_imp (pe_methGS ho c hm G hgd hr hb hx ha hst hpl ht) fun σ H Q hq => ?_
  obtain ⟨ok, ρ, w, h⟩ := hq
  refine ⟨ok, ρ, w, (Rs.bnd (RA := relD X.K) h).mono fun v H1 hq => ?_⟩
  obtain ⟨ok1, ρ1, d, w1, s1, r1, h1⟩ := hq
  by_cases hi : isObj C m d = true
  · rw [if_pos hi] at h1
    obtain ⟨a, dx, fs, rfl, ea, el⟩ := isObj_rep r1 hi
    refine ⟨a, dx, fs, rfl, ea, el, ok1, ρ1, w1, (Rs.bnd (RA := relA X.K) h1).mono fun vs H2 hq => ?_⟩
    obtain ⟨ok2, ρ2, ds, w2, s2, r2, h2⟩ := hq
    by_cases hd : ds.length + 1 = n
    · rw [if_pos hd] at h2
      exact app_ok w2 (.cons (Rep.fr s2.fr r1) r2) (by rw [List.length_cons, Reps.length r2]; exact hd) h2
    · rw [if_neg hd] at h2
      exact h2.elim
  · rw [if_neg hi] at h1
    exact h1.elim
theorem er_meth0 {n : Nat} {F : P R} {fo : P D} {pl : Sem Bool} (ho : EV X g E o fo) (c : Cls X.K C) (hm : Meth X.K C m f) (G : FnG X.prog X.w X.K X.mg X.base CX k f fd ps (spP X.K n F)) (hgd : X.A.guards = some []) (hr : Room k X.A) (hb : Binds X.K fd ps []) (hx : ∀ σ, PassesAt CX X σ (E σ))
    (ht : eval (.Call (.Attribute o m apos) [] [] pos) X.env = (do
      let ov ← eval o X.env
      standAt apos.atName
      let (f, first) ← holding [ov] (getMethod ov m pl)
      callWith pos f first (backTo pos (starEach [] X.env)) (backToKw pos (keywordEach [] X.env))) := by rfl) :
    ER X g E (.Call (.Attribute o m apos) [] [] pos) (bnd fo fun d => if isObj C m d = true ∧ 1 = n then app F [d] else fun _ => none) := by
  refine PE_imp (pe_methGS0 ho c hm G hgd hr hb hx ht) fun σ H Q hq => ?_
  obtain ⟨ok, ρ, w, h⟩ := hq
  refine ⟨ok, ρ, w, (Rs.bnd (RA := relD X.K) h).mono fun v H1 hq => ?_⟩
  obtain ⟨ok1, ρ1, d, w1, s1, r1, h1⟩ := hq
  by_cases hi : isObj C m d = true ∧ 1 = n
  · rw [if_pos hi] at h1
    obtain ⟨a, dx, fs, rfl, ea, el⟩ := isObj_rep r1 hi.1
    exact ⟨a, dx, fs, rfl, ea, el, app_ok w1 (.cons r1 .nil) (by rw [List.length_singleton]; exact hi.2) h1⟩
  · rw [if_neg hi] at h1
    exact h1.elim
end
end Pu
/-! C.m(e, ..), m a plain def of the class C: the def itself is called. -/
namespace Kv
open PySem PySem.Spec PyProof.Rows L2
def tCF (C : Addr) (sp : Sp) (dvs : List V) (E : XK) (ta : TE) (t : TA) : TE := fun σ H Q => ta σ H fun x H1 => x = .ref C ∧ tCall sp dvs E t σ H1 Q
section
variable {X : Cx} {CX : CXT} {k : Nat} {f C : Addr} {fd : FuncData} {ps : List Str} {sp : Sp} {dvs : List V} {ds : List Value} {E : XK} {m : Str} {apos pos : Pos} {o e : Expr} {es : List Expr} {ta : TE} {t : TA} {mc : Value}
theorem pe_clsFn {pl : Sem Bool} (he : PE X o ta) (r : ClX.CRead X.K C mc) (c : PySem.W.findCls X.K (.ref C) mc m = some (.val (.ref f))) (hk : PySem.W.keepIn X.K (.ref f) = true)
    (F : FnOk X.prog X.w X.K X.mg X.base CX k f fd ps sp) (hr : Room k X.A) (hb : Binds X.K fd ps ds) (hd : Vals dvs ds) (hx : Passes CX X E) (ha : PA X (e :: es) t)
    (hst : starEach (e :: es) X.env = (false, eval e X.env) :: starEach es X.env := by rfl) (hpl : (backTo pos (starEach es X.env)).any (·.1) = false := by rfl)
    (ht : eval (.Call (.Attribute o m apos) (e :: es) [] pos) X.env = (do
      let ov ← eval o X.env
      standAt apos.atName
      let (g, first) ← holding [ov] (getMethod ov m pl)
      callWith pos g first (backTo pos (starEach (e :: es) X.env)) (backToKw pos (keywordEach [] X.env))) := by rfl) :
    PE X (.Call (.Attribute o m apos) (e :: es) [] pos) (tCF C sp dvs E ta t) := by
  constructor
  intro pins s σ H Q I h
  refine PySem.W.methodCall_KW (pl := pl) (thn (he.run pins s σ H _ I h) fun u s1 ⟨x, H1, I1, rx, ex, q⟩ => ?_) ht
  subst ex
  obtain rfl : u = Value.ref C := rx
  refine PySem.W.method_cls I1.kIn r.ga (PySem.W.cls_value I1.kIn r.rd c rfl ?_)
  exact PySem.W.callWith_K (h₀ := X.base) I1.ok.mod.kin hk (thn (ha.run pos pins _ σ H1 _ (I1.tok _) q) fun us s2 ⟨vs, H2, I2, rv, q2⟩ => ⟨I2.kIn, run_fn F hr hb hd hx I2 rv q2⟩) hst hpl
end
end Kv
/-! A datum of any kind against a text; a tuple of such against a tuple of texts. -/
namespace Kv
open PySem PySem.Spec PyProof.Rows L2
section
open PySem.SeqAt PySem.MeetsSeq AutoSeq1
theorem dict_eq_declines_str (l : Addr) (es : Array DictEntry) (ep : Nat) (dd : Option Addr) (sl : Array (Option Value)) (b : Str) (u : Tok) :
    Meets (Builtin.«dict.__eq__» ⟨[.ref l, .str b u], []⟩) (fun _ R s => s.heap.get? l = some { cls := .type "dict", dict := dd, data := .dict es ep, slots := sl } ∧ R (.ok (.ret .notImplemented)) s) :=
  .of_wp fun prog w A R s h => by obtain ⟨hp, g, d, tk, os⟩ := s; obtain ⟨hl, h⟩ := h; have f1 := F.sub_str_dict; wp_walk using wpAny_loadPart' hl; exact ⟨_, rfl, h⟩
theorem str_eq_declines_dict (b : Str) (u : Tok) (l : Addr) (es : Array DictEntry) (ep : Nat) (dd : Option Addr) (sl : Array (Option Value)) :
    Meets (Builtin.«str.__eq__» ⟨[.str b u, .ref l], []⟩) (fun _ R s => s.heap.get? l = some { cls := .type "dict", dict := dd, data := .dict es ep, slots := sl } ∧ R (.ok (.ret .notImplemented)) s) :=
  .of_wp fun prog w A R s h => by obtain ⟨hp, g, d, tk, os⟩ := s; obtain ⟨hl, h⟩ := h; wp_walk using wpAny_loadPart' hl, wpAny_load hl; exact ⟨_, rfl, h⟩
variable {A : Around} {s : Shared}
theorem rc_dict_str {l : Addr} {o : Obj} {es : Array DictEntry} {ep : Nat} (b : Str) (u : Tok) (ho : s.heap.get? l = some o) (hc : o.cls = .type "dict") (hd : o.data = .dict es ep)
    (hu : A.units < cLine) : RcAt A s (.ref l) (.str b u) false := fun prog w E Q h => by
  obtain ⟨cls, dd, data, sl⟩ := o
  simp only at hc hd
  subst hc hd
  exact rc_eq_decline_or (k := false) ⟨_, ho, rfl⟩ (typeIs_str s b u) (by decide) F.sub_str_dict F.slot_dict_eq F.slot_str_eq_refl
    (fun _ hq => call_meets F.slot_dict_eq ⟨_, ho, rfl⟩ F.entry_dict_eq (F.args_dict_eq_2 _ _) (dict_eq_declines_str l es ep dd sl b u) ⟨ho, hq⟩)
    (fun _ hq => call_meets F.slot_str_eq_refl (typeIs_str s b u) F.entry_str_eq (F.args_str_eq_2 _ _) (str_eq_declines_dict b u l es ep dd sl) ⟨ho, hq⟩)
    (fun _ hq => wpAny_of_eq (rfl : isSame (.ref l) (.str b u) = pure false) hq) (.inr hu) h
theorem eqAt_dict_str {l : Addr} {o : Obj} {es : Array DictEntry} {ep : Nat} (b : Str) (u : Tok) (ho : s.heap.get? l = some o) (hc : o.cls = .type "dict") (hd : o.data = .dict es ep)
    (hu : A.units < cLine) : EqAt A s (.ref l) (.str b u) false := fun prog w E Q h => by
  unfold eqBool
  refine wpAny_holding ?_
  refine wpAny_ite_split (fun hab => absurd (eq_of_beq hab) nofun) (fun _ => ?_)
  exact wpAny_bind (rc_dict_str b u ho hc hd hu prog w E _ (wpAny_truthy_bool h))
def strEq : PyData → Str → Bool
  | .str x, z => x == z
  | _, _ => false
theorem rc_any_str {v : Value} {d : PyData} {as : List Addr} (z : Str) (u : Tok) (r : Reads s.heap v d as) (hu : A.units < cLine) : RcAt A s v (.str z u) (strEq d z) := by
  cases r with
  | none => exact RcAt.none_str z u
  | bool y => exact RcAt.bool_str y z u
  | int y t => exact RcAt.int_str y t z u
  | str y t => exact RcAt.str_str y t z u
  | list k1 k2 k3 k4 => exact RcAt.list_str z u ⟨_, k1, k2, _, k3⟩ hu
  | tuple k1 k2 k3 k4 => exact RcAt.tuple_str z u ⟨_, k1, k2, _, k3⟩ hu
  | dict k1 k2 k3 k4 k5 => exact rc_dict_str z u k1 k2 k3 hu
theorem eqAt_any_str {v : Value} {d : PyData} {as : List Addr} (z : Str) (u : Tok) (r : Reads s.heap v d as) (hu : A.units < cLine) : EqAt A s v (.str z u) (strEq d z) := by
  cases r with
  | none => exact EqAt.none_str z u
  | bool y => exact EqAt.bool_str y z u
  | int y t => exact EqAt.int_str y t z u
  | str y t => exact EqAt.str_str y t z u
  | list k1 k2 k3 k4 => exact EqAt.list_str z u ⟨_, k1, k2, _, k3⟩ hu
  | tuple k1 k2 k3 k4 => exact EqAt.tuple_str z u ⟨_, k1, k2, _, k3⟩ hu
  | dict k1 k2 k3 k4 k5 => exact eqAt_dict_str z u k1 k2 k3 hu
/-- a tuple of data is that tuple of texts -/
def tupEq : List PyData → List Str → Bool
  | [], [] => true
  | d :: ds, z :: zs => strEq d z && tupEq ds zs
  | _, _ => false
abbrev pairS (ds : List PyData) (zs : List Str) (j : Nat) : Bool := strEq (ds.getD j .none) (zs.getD j "")
theorem tupEq_eq : ∀ (ds : List PyData) (zs : List Str), ((List.range (min ds.length zs.length)).all (pairS ds zs) && ds.length == zs.length) = tupEq ds zs
  | [], [] => rfl
  | [], _ :: _ => by simp [tupEq]
  | _ :: _, [] => by simp [tupEq]
  | x :: xs, y :: ys => by
    have ih := tupEq_eq xs ys
    have e1 : min (x :: xs).length (y :: ys).length = min xs.length ys.length + 1 := by simp only [List.length_cons]; omega
    have e2 : ((x :: xs).length == (y :: ys).length) = (xs.length == ys.length) := by simp
    have e3 : (List.range (min xs.length ys.length + 1)).all (pairS (x :: xs) (y :: ys)) = (strEq x y && (List.range (min xs.length ys.length)).all (pairS xs ys)) := by
      rw [List.range_succ_eq_map, List.all_cons, List.all_map]
      first | rfl | simp [pairS, Function.comp_def]
    rw [e1, e2, e3, tupEq, ← ih, Bool.and_assoc]
theorem readsAll_get {h : Heap} : ∀ {ds : List PyData} {vs : List Value} {as : List Addr} {j : Nat} {v : Value}, ReadsAll h vs ds as → vs[j]? = some v → ∃ bs, Reads h v (ds.getD j .none) bs
  | _, _, _, _, _, .nil, e => by simp at e
  | _, _, _, 0, v, .cons r _, e => by
    simp at e
    subst e
    exact ⟨_, r⟩
  | _, _, _, j + 1, v, .cons _ r, e => by
    obtain ⟨bs, q⟩ := readsAll_get (j := j) r (by simpa using e)
    exact ⟨bs, by simpa using q⟩
theorem vals_strs_get : ∀ {zs : List Str} {us : List Value} {j : Nat} {u : Value}, Vals (zs.map V.str) us → us[j]? = some u → ∃ t, u = .str (zs.getD j "") t
  | [], _, _, _, r, e => by
    cases r
    simp at e
  | z :: zs, _, 0, u, .cons r _, e => by
    simp at e
    subst e
    obtain ⟨t, rfl⟩ := r
    exact ⟨t, rfl⟩
  | z :: zs, _, j + 1, u, .cons _ r, e => by
    obtain ⟨t, q⟩ := vals_strs_get (zs := zs) (j := j) r (by simpa using e)
    exact ⟨t, by simpa using q⟩
end
section
variable {X : Cx}
def rEqTx (K : PySem.W.Frag) : R2 := fun x y H Q => ∃ nd d z, Sh K nd H x d ∧ y = .str z ∧ Q (.bl (strEq d z)) H
theorem op_eqTx (hu : X.A.units < cLine) : OpR X (compareOp .Eq) (rEqTx X.K) := by
  intro pins s σ H x y v u Q I rx ry h
  obtain ⟨nd, d, z, sh, rfl, q⟩ := h
  obtain ⟨t, rfl⟩ := ry
  obtain ⟨as, rd, _⟩ := sh.reads I rx
  exact rc_any_str z t rd hu _ _ _ _ ⟨.bl _, H, I, rfl, q⟩
def rEqTT (K : PySem.W.Frag) : R2 := fun x y H Q => ∃ (nd : Bool) (a b : Addr) (xs : List V) (ds : List PyData) (zs : List Str), x = .ref a ∧ SqT K H a xs ∧ ShAll K nd H xs ds ∧ y = .ref b ∧ SqT K H b (zs.map V.str) ∧ Q (.bl (tupEq ds zs)) H
theorem op_eqTT (hu : X.A.units + 1 < cLine) : OpR X (compareOp .Eq) (rEqTT X.K) := by
  intro pins s σ H x y v u Q I rx ry h
  obtain ⟨nd, a, b, xs, ds, zs, rfl, ha, hs, rfl, hb, q⟩ := h
  cases rx
  cases ry
  obtain ⟨its, rv, tx, _⟩ := I.tuple ha
  obtain ⟨jts, rw2, ty, _⟩ := I.tuple hb
  obtain ⟨as, rd, _⟩ := hs.reads I rv
  have n1 : its.toArray.size = ds.length := by
    rw [List.size_toArray, ← rv.length, hs.length]
  have n2 : jts.toArray.size = zs.length := by
    rw [List.size_toArray, ← rw2.length, List.length_map]
  refine SeqAt.RcAt.tuples (e := pairS ds zs) tx ty (by omega) (fun j h1 h2 => ?_) _ _ _ _ ⟨.bl (tupEq ds zs), H, I, ?_, q⟩
  · have g1 : its[j]? = some its.toArray[j] := by
      simp
    have g2 : jts[j]? = some jts.toArray[j] := by
      simp
    obtain ⟨bs, r1⟩ := readsAll_get rd g1
    obtain ⟨t, e⟩ := vals_strs_get rw2 g2
    rw [e]
    exact eqAt_any_str _ _ r1 (show X.A.units + 1 < cLine from hu)
  · rw [n1, n2, tupEq_eq]
    rfl
end
end Kv
/-! C(e, ..) that may raise, in a try; isinstance of a caught exception that has fields. -/
namespace Kv
open PySem PySem.Spec PyProof.Rows L2
section
variable {X : Cx} {CX : CXT} {k : Nat} {f C : Addr} {fd : FuncData} {ps : List Str} {sp : Sp} {dvs : List V} {ds : List Value} {E : L2.St → XK} {x : Str} {p pos : Pos} {e : Expr} {es : List Expr} {t : TA}
def tMakeS (C : Addr) (sp : Sp) (dvs : List V) (E : L2.St → XK) (t : TA) : TE := fun σ H Q => t σ H fun vs H1 => ∀ x dx, H1 x = none → H1 dx = none → dx ≠ x →
  sp (.ref x :: (vs ++ dvs)) (upd (upd H1 dx (.own x)) x (.ins C dx [])) (fun v H2 => v = .non ∧ Q (.ref x) H2) (E σ)
theorem run_makeS {pins : List (Addr × Obj)} {σ : L2.St} {H : Hp} {s : Shared} {Q : VK} {us : List Value} {vs : List V} (M : Mk X.K C f) (F : FnOk X.prog X.w X.K X.mg X.base CX k f fd ps sp) (hr : Room (k + 1) X.A) (hb : Binds X.K fd ps ds) (hd : Vals dvs ds)
    (hx : PassesAt CX X σ (E σ)) (I : Inv X pins σ H s) (r : Vals vs us)
    (h : ∀ x dx, H x = none → H dx = none → dx ≠ x → sp (.ref x :: (vs ++ dvs)) (upd (upd H dx (.own x)) x (.ins C dx [])) (fun v H2 => v = .non ∧ Q (.ref x) H2) (E σ)) :
    wpAny (model X.prog X.w) X.A (call (.ref C) us) (EP X pins σ Q) X.xe s := by
  have hq := h (s.heap.objs.size + 1) s.heap.objs.size (I.hok.fresh (Nat.le_succ _)) (I.hok.fresh (Nat.le_refl _)) (Nat.ne_of_lt (Nat.lt_succ_self _))
  have I2 := Inv.made (C := C) I
  have r2 : Vals (V.ref (s.heap.objs.size + 1) :: (vs ++ dvs)) (Value.ref (s.heap.objs.size + 1) :: (us ++ ds)) := .cons rfl (r.append hd)
  have hl : (Value.ref (s.heap.objs.size + 1) :: us ++ ds).length = ps.length := by
    have e := r2.length
    rw [F.len _ _ _ _ hq] at e
    exact e.symm
  refine wpAny_call (make_map (f := f) I.kIn M.makes M.init (beq_iff_eq.mp M.fn) (codeAny_mono (F.run _ X.stack _ _ ⟨Value.ref (s.heap.objs.size + 1) :: us, []⟩ (Value.ref (s.heap.objs.size + 1) :: (us ++ ds)) _ _ (E σ) (hr.make C us [])
    (I2.env0.make C us []) (hb _ (Value.ref (s.heap.objs.size + 1) :: us) I2.kIn hl) r2 hq) fun r s2 hq2 => ?_))
  cases r with
  | error e => exact hx pins _ _ e s2 I2 hq2
  | ok fl =>
    cases fl with
    | ret u =>
      obtain ⟨v, H3, I3, rv, ev, q3⟩ := I2.after hq2
      subst ev
      exact ⟨rv, ⟨V.ref (s.heap.objs.size + 1), H3, I3, rfl, q3⟩⟩
    | next => exact False.elim hq2
    | brk => exact False.elim hq2
    | cont => exact False.elim hq2
theorem pe_makeS (M : Mk X.K C f) (F : FnOk X.prog X.w X.K X.mg X.base CX k f fd ps sp) (hr : Room (k + 1) X.A) (hg : Gl X x) (hm : X.mg x = some (.ref C)) (hb : Binds X.K fd ps ds) (hd : Vals dvs ds) (hx : ∀ σ, PassesAt CX X σ (E σ))
    (ha : PA X (e :: es) t) (hdb : (x == ("__debug__" : Str)) = false := by decide) (he : starEach (e :: es) X.env = (false, eval e X.env) :: starEach es X.env := by rfl) (hpl : (backTo pos (starEach es X.env)).any (·.1) = false := by rfl) :
    PE X (.Call (.Name x p) (e :: es) [] pos) (tMakeS C sp dvs E t) := by
  constructor
  intro pins s σ H Q I h
  refine wpAny_Call_Name_kw (ld_glob I hg hm ?_ hdb)
  refine PySem.W.callWith_K (h₀ := X.base) I.ok.mod.kin M.kp (thn (ha.run pos pins s σ H _ I h) fun us s1 ⟨vs, H1, I1, r, q⟩ => ⟨I1.kIn, ?_⟩) he hpl
  exact run_makeS M F hr hb hd (hx σ) I1 r q
end
/-! isinstance of a caught exception with its dict -/
section
variable {X : Cx} {a D : Addr} {oe : Obj} {pn : List (Addr × Obj)} {cls : Value} {d : Option Addr}
theorem exc_kit {pins : List (Addr × Obj)} {σ : L2.St} {H : Hp} {s : Shared} {dd : Addr} {fs : List (Str × V)} (hz : Zc (.ref D) (some dd) oe) (hf : ∃ vs, oe.data = .fields vs) (I : Inv (X.suite a ((a, oe) :: pn)) pins σ H s) (hd : H dd = some (.xd fs)) :
    ∃ od, PySem.W.InstAt s.heap a oe D (some od) := by
  obtain ⟨hget, _⟩ := I.pin (a, oe) (List.mem_append.mpr (.inl List.mem_cons_self))
  obtain ⟨vs, hv⟩ := hf
  have hx : ObjOk X.prog X.w H s.heap dd (.xd fs) := I.hok dd _ hd
  obtain ⟨mA, hns, hr⟩ := hx
  obtain ⟨od, ho, hl⟩ := lookIn_ns hns
  exact ⟨od, hget, hz.1, by unfold PySem.W.notCls; rw [hv] <;> rfl, by rw [hz.2]; exact ho⟩
def rIsED (K : PySem.W.Frag) (cls : Value) (d : Option Addr) (D a : Addr) : List V → Hp → VK → Prop := fun xs H Q => ∃ (c : V) (cv : Value) (b : Bool) (dd : Addr) (fs : List (Str × V)), xs = [.ref a, c] ∧ cls = .ref D ∧ d = some dd ∧ H dd = some (.xd fs) ∧
  (∀ u, RelV c u → u = cv) ∧ PySem.W.kitOne K (.ref D) cv = some b ∧ Q (.bl b) H
theorem call_isED (C : ExcC X.K D) (hz : Zc cls d oe) (hf : ∃ vs, oe.data = .fields vs) : CallR (X.suite a ((a, oe) :: pn)) (.builtin "isinstance") (rIsED X.K cls d D a) := by
  intro pins s σ H xs us Q I r h
  obtain ⟨c, cv, b, dd, fs, rfl, rfl, rfl, hdd, hcv, e, q⟩ := h
  obtain ⟨u1, u2, rfl, r1, r2⟩ := vals2 r
  cases r1
  have ec := hcv _ r2
  subst ec
  obtain ⟨od, J⟩ := exc_kit hz hf I hdd
  obtain ⟨cd, hc, _⟩ := PySem.W.any_some C.hd
  exact PySem.W.kia_one (PySem.W.kitx_exc (by rw [hc]; rfl) C.hg C.hk C.hs C.ha C.hn C.ht C.hm) I.kIn J e (fun z => nomatch z) fun tk => ⟨.bl b, H, I.tok tk, rfl, q⟩
def rIsEDT (K : PySem.W.Frag) (cls : Value) (d : Option Addr) (D a : Addr) : List V → Hp → VK → Prop := fun xs H Q => ∃ (tp : Addr) (cs : List V) (us : List Value) (b : Bool) (dd : Addr) (fs : List (Str × V)), xs = [.ref a, .ref tp] ∧ cls = .ref D ∧ d = some dd ∧ H dd = some (.xd fs) ∧
  H tp = some (.tup cs) ∧ Paired (fun c u => ∀ z, RelV c z → z = u) cs us ∧ PySem.W.kitAny K (.ref D) us = some b ∧ Q (.bl b) H
theorem paired_eq : ∀ {cs : List V} {us its : List Value}, Paired (fun c u => ∀ z, RelV c z → z = u) cs us → Vals cs its → its = us
  | _, _, _, .nil, .nil => rfl
  | _, _, _, .cons a b, .cons r s => by rw [a _ r, paired_eq b s]
theorem call_isEDT (C : ExcC X.K D) (hz : Zc cls d oe) (hf : ∃ vs, oe.data = .fields vs) : CallR (X.suite a ((a, oe) :: pn)) (.builtin "isinstance") (rIsEDT X.K cls d D a) := by
  intro pins s σ H xs us Q I r h
  obtain ⟨tp, cs, ws, b, dd, fs, rfl, rfl, rfl, hdd, hT, k, e, q⟩ := h
  obtain ⟨u1, u2, rfl, r1, r2⟩ := vals2 r
  cases r1
  cases (show u2 = Value.ref tp from r2)
  obtain ⟨od, J⟩ := exc_kit hz hf I hdd
  obtain ⟨cd, hc, _⟩ := PySem.W.any_some C.hd
  obtain ⟨_, its, rv, o, h1, h2, n, h3⟩ := (show ObjOk X.prog X.w H s.heap tp (.tup cs) from I.hok tp _ hT)
  have e3 := paired_eq k rv
  subst e3
  obtain ⟨oc, oD, dt, sl⟩ := o
  simp only at h2 h3
  subst h2 h3
  exact PySem.W.kia_tup (PySem.W.kitx_exc (by rw [hc]; rfl) C.hg C.hk C.hs C.ha C.hn C.ht C.hm) I.kIn J h1 e (fun z => nomatch z) fun tk => ⟨.bl b, H, I.tok tk, rfl, q⟩
end
end Kv
/-! What isinstance says of data; data that fit, part by part. -/
namespace Lw
open PySem PySem.Spec PyProof.Rows L2 Kv
def wordD : PyData → Bool
  | .str x => nameV (.str x)
  | _ => false
/-! what isinstance says -/
def tyD : PyData → String
  | .none => "NoneType"
  | .bool _ => "bool"
  | .int _ => "int"
  | .str _ => "str"
  | .list _ => "list"
  | .tuple _ => "tuple"
  | .dict _ => "dict"
theorem _root_.Kv.Sh.tyIs {K : PySem.W.Frag} {nd : Bool} {H : Hp} {v : V} {d : PyData} (h : Sh K nd H v d) : TyX K H v (.type (tyD d)) := by
  cases h with
  | non => exact .base .non
  | bl b => exact .base (.bl b)
  | int i => exact .base (.int i)
  | str x => exact .base (.str x)
  | lst h1 _ _ => exact tyL h1
  | tup h1 _ => exact tyT h1
  | dict _ h1 _ _ => exact .base (.dK h1)
def isTup : PyData → Bool
  | .tuple _ => true
  | _ => false
def isStr : PyData → Bool
  | .str _ => true
  | _ => false
def isInt : PyData → Bool
  | .int _ => true
  | .bool _ => true
  | _ => false
def isBool : PyData → Bool
  | .bool _ => true
  | _ => false
theorem kit_tup : ∀ d : PyData, kitB (tyD d) "tuple" = some (isTup d)
  | .none => (by decide +kernel : kitB "NoneType" "tuple" = some false)
  | .bool _ => (by decide +kernel : kitB "bool" "tuple" = some false)
  | .int _ => (by decide +kernel : kitB "int" "tuple" = some false)
  | .str _ => (by decide +kernel : kitB "str" "tuple" = some false)
  | .list _ => (by decide +kernel : kitB "list" "tuple" = some false)
  | .tuple _ => (by decide +kernel : kitB "tuple" "tuple" = some true)
  | .dict _ => (by decide +kernel : kitB "dict" "tuple" = some false)
theorem kit_str : ∀ d : PyData, kitB (tyD d) "str" = some (isStr d)
  | .none => (by decide +kernel : kitB "NoneType" "str" = some false)
  | .bool _ => (by decide +kernel : kitB "bool" "str" = some false)
  | .int _ => (by decide +kernel : kitB "int" "str" = some false)
  | .str _ => (by decide +kernel : kitB "str" "str" = some true)
  | .list _ => (by decide +kernel : kitB "list" "str" = some false)
  | .tuple _ => (by decide +kernel : kitB "tuple" "str" = some false)
  | .dict _ => (by decide +kernel : kitB "dict" "str" = some false)
theorem kit_int : ∀ d : PyData, kitB (tyD d) "int" = some (isInt d)
  | .none => (by decide +kernel : kitB "NoneType" "int" = some false)
  | .bool _ => (by decide +kernel : kitB "bool" "int" = some true)
  | .int _ => (by decide +kernel : kitB "int" "int" = some true)
  | .str _ => (by decide +kernel : kitB "str" "int" = some false)
  | .list _ => (by decide +kernel : kitB "list" "int" = some false)
  | .tuple _ => (by decide +kernel : kitB "tuple" "int" = some false)
  | .dict _ => (by decide +kernel : kitB "dict" "int" = some false)
theorem kit_bool : ∀ d : PyData, kitB (tyD d) "bool" = some (isBool d)
  | .none => (by decide +kernel : kitB "NoneType" "bool" = some false)
  | .bool _ => (by decide +kernel : kitB "bool" "bool" = some true)
  | .int _ => (by decide +kernel : kitB "int" "bool" = some false)
  | .str _ => (by decide +kernel : kitB "str" "bool" = some false)
  | .list _ => (by decide +kernel : kitB "list" "bool" = some false)
  | .tuple _ => (by decide +kernel : kitB "tuple" "bool" = some false)
  | .dict _ => (by decide +kernel : kitB "dict" "bool" = some false)
theorem word_name {K : PySem.W.Frag} {nd : Bool} {H : Hp} {v : V} {d : PyData} (h : Sh K nd H v d) : nameV v = wordD d := by
  cases h <;> rfl
theorem fit_all {n m : Nat} : ∀ {ds : List PyData} {i : Nat} {d : PyData}, FitAll n m ds → ds[i]? = some d → Fit n m d
  | [], i, d, _, e => by simp at e
  | x :: r, i, d, a, e => by
    obtain ⟨a1, a2, a3, a4⟩ := a
    simp only [PyData.showableAll, Bool.and_eq_true] at a1
    simp only [PyData.leavesShortAll, Bool.and_eq_true] at a2
    simp only [PyData.weightAll] at a3
    simp only [PyData.depthAll] at a4
    cases i with
    | zero =>
      have e2 : x = d := by simpa using e
      subst e2
      exact ⟨a1.1, a2.1, by omega, by omega⟩
    | succ i => exact fit_all (ds := r) (i := i) ⟨a1.2, a2.2, by omega, by omega⟩ (by simpa using e)
theorem fit_tup {n m : Nat} {ds : List PyData} (h : Fit n m (.tuple ds)) : FitAll n m ds := by
  obtain ⟨a1, a2, a3, a4⟩ := h
  simp only [PyData.showable] at a1
  simp only [PyData.leavesShort] at a2
  simp only [PyData.weight] at a3
  simp only [PyData.depth] at a4
  exact ⟨a1, a2, by omega, by omega⟩
theorem fit_len {n m : Nat} : ∀ {ds : List PyData}, FitAll n m ds → ds.length ≤ n
  | [], _ => Nat.zero_le _
  | x :: r, a => by
    obtain ⟨a1, a2, a3, a4⟩ := a
    simp only [PyData.showableAll, Bool.and_eq_true] at a1
    simp only [PyData.leavesShortAll, Bool.and_eq_true] at a2
    simp only [PyData.weightAll] at a3
    simp only [PyData.depthAll] at a4
    have := fit_len (ds := r) (n := n - 1 - x.weight) (m := m) ⟨a1.2, a2.2, by omega, by omega⟩
    simp only [List.length_cons]
    omega
theorem fit_str {K : PySem.W.Frag} {nd : Bool} {H : Hp} {n m : Nat} {v : V} {d : PyData} (h : Sh K nd H v d) (hf : Fit n m d) (hn : n ≤ 10000 := by decide) : ∀ x, v = .str x → x.length ≤ 10000 := by
  intro x e
  subst e
  cases h
  have h := hf.2.2.1
  simp only [PyData.weight] at h
  exact Nat.le_trans h hn
theorem shGet {K : PySem.W.Frag} {nd : Bool} {H : Hp} : ∀ {vs : List V} {ds : List PyData} {i : Nat} {v : V}, ShAll K nd H vs ds → vs[i]? = some v → ∃ d, ds[i]? = some d ∧ Sh K nd H v d
  | _, _, _, _, .nil, e => by simp at e
  | _, _, 0, _, .cons a _, e => by
    simp at e
    subst e
    exact ⟨_, rfl, a⟩
  | _, _, i + 1, v, .cons _ b, e => by
    obtain ⟨d, h1, h2⟩ := shGet (i := i) (v := v) b (by simpa using e)
    exact ⟨d, by simpa using h1, h2⟩
theorem ifI_ne {i j : Int} {A B : Prop} (h : i ≠ j) (b : B) : if decide (V.int i = V.int j) = true then A else B := by
  rw [if_neg]
  · exact b
  · intro z
    have := of_decide_eq_true z
    injection this with this
    exact h this
theorem ifI_eq {i : Int} {A B : Prop} (a : A) : if decide (V.int i = V.int i) = true then A else B := by
  rw [if_pos (decide_eq_true rfl)]
  exact a
def rListNT (K : PySem.W.Frag) : List V → Hp → VK → Prop := fun xs H Q => ∃ p ys, xs = [.ref p] ∧ SqT K H p ys ∧
  ∀ l, H l = none → l ≠ sysModules → Q (.ref l) (upd H l (.lst ys))
theorem call_listNT {X : Cx} (low : sysModules < X.base.objs.size) : CallR X (.type "list") (rListNT X.K) := by
  intro pins s σ H xs us Q I r h
  obtain ⟨p, ys, rfl, hq, q⟩ := h
  obtain ⟨u, rfl, rx⟩ := vals1 r
  cases rx
  obtain ⟨its, rv, pl, hz⟩ := I.tuple hq
  have hlen := rv.length
  obtain ⟨o, ho, hc, n, hd⟩ := pl
  refine call_list_seq p (.inr rfl) ho hc hd ?_ (by simp only [List.size_toArray]; omega)
  intro h2 c2 kp e
  have ok : ObjOk X.prog X.w (upd H s.heap.objs.size (.lst ys)) h2 s.heap.objs.size (.lst ys) := ⟨hz, its, c2, rv, e⟩
  exact ⟨.ref s.heap.objs.size, _, I.laid (t' := s.toks) kp (Nat.le_refl _) ok, rfl, q _ (I.hok.fresh (Nat.le_refl _)) (new_low low I)⟩
/-- new places -/
def NewAt (H : Hp) : Addr → Prop := fun a => H a = none ∧ a ≠ sysModules
theorem but_free {p c : Addr} {H H1 : Hp} (hp : PotAt H1 p) (b : But p H H1) (h : H1 c = none) : H c = none := by
  cases e : H c with
  | none => rfl
  | some o =>
    by_cases z : c = p
    · subst z
      obtain ⟨_, _, e2, _⟩ := hp
      rw [e2] at h
      cases h
    · rw [b _ _ z e] at h
      cases h
theorem ShO.mono {ok ok' : Addr → Prop} {H : Hp} (h : ∀ a, ok a → ok' a) : ∀ {v : V} {d : PyData}, ShO ok H v d → ShO ok' H v d := by
  intro v d s
  exact ShO.rec (motive_1 := fun v d _ => ShO ok' H v d) (motive_2 := fun vs ds _ => ShOs ok' H vs ds) .non .bl .int .str
    (fun h1 h2 _ ih => .lst h1 (h _ h2) ih) (fun h1 _ ih => .tup h1 ih) (fun h1 _ _ i1 i2 => .dict h1 i1 i2) .nil (fun _ _ i1 i2 => .cons i1 i2) s
theorem units65 {k : Nat} {A : Around} (r : Room k A) : A.units + 65 < cLine := by
  have := r.un
  omega
def rLenQ (K : PySem.W.Frag) : List V → Hp → VK → Prop := fun xs H Q => ∃ p ys, xs = [.ref p] ∧ (SqL K H p ys ∨ SqT K H p ys) ∧ Q (.int ys.length) H
theorem met_full {xs : List Str} : ∀ i, i ≤ xs.length → met xs i = i → (xs.take i).Nodup
  | 0, _, _ => by
    rw [List.take_zero]
    exact List.nodup_nil
  | i + 1, hi, h => by
    have hl := met_le xs i
    have h2 : (if (xs.take i).any (· == xs.getD i Str.empty) then met xs i else met xs i + 1) = i + 1 := h
    have e : xs[i]? = some xs[i] := List.getElem?_eq_getElem (by omega)
    split at h2
    · omega
    · rename_i hn
      have ih := met_full (xs := xs) i (by omega) (by omega)
      rw [List.take_add_one, e]
      refine List.nodup_append.mpr ⟨ih, List.pairwise_singleton _ _, fun x hx y hy => ?_⟩
      have hy2 : y = xs[i] := by simpa using hy
      intro z
      apply hn
      rw [List.any_eq_true]
      refine ⟨x, hx, ?_⟩
      rw [List.getD_eq_getElem?_getD, e, z, hy2]
      exact beq_self_eq_true _
theorem met_iff (xs : List Str) : decide (met xs xs.length = xs.length) = decide xs.Nodup := by
  by_cases h : xs.Nodup
  · rw [decide_eq_true h, decide_eq_true (met_nodup h _ (Nat.le_refl _))]
  · rw [decide_eq_false h, decide_eq_false]
    intro z
    have := met_full _ (Nat.le_refl _) z
    rw [List.take_length] at this
    exact h this
end Lw
/-! Built-ins. -/
namespace Pu
open PySem PySem.Spec PyProof.Rows L2 Kv
section
variable {X : Cx} {g : Gx} {E : Wx} {a b c e : Expr} {x : Str} {p pos : Pos} {fa fb fc : P D}
def Op1 (K : PySem.W.Frag) (r : List V → Hp → VK → Prop) (op : D → Option D) : Prop := ∀ (g : Gx) (ρ : En) (σ : L2.St) (ok : Addr → Prop) (H : Hp) (v : V) (x z : D) (Q : VK), Wf K g ok ρ σ H → Pk K ok H v x → op x = some z → Can K g ρ σ ok H z Q → r [v] H Q
theorem tX_op1 {r : List V → Hp → VK → Prop} {op : D → Option D} (h1 : Op1 X.K r op) {σ : L2.St} {H : Hp} {Q : VK} (hq : tX X.K g E (relD X.K) (bnd fa fun x => lft (op x)) σ H Q) : tCB r (tCons (tX X.K g E (relP X.K) fa) tNil) σ H Q := by
  obtain ⟨ok, ρ, w, h⟩ := hq
  refine ⟨ok, ρ, w, (Rs.bnd (RA := relP X.K) h).mono fun v1 H1 hq => ?_⟩
  obtain ⟨ok1, ρ1, d, w1, f1, r1, h2⟩ := hq
  unfold lft at h2
  cases e : op d with
  | none => rw [e] at h2; exact h2.elim
  | some z => rw [e] at h2; exact h1 g ρ1 σ ok1 H1 v1 d z Q w1 r1 e h2
theorem ev_call1 {id : String} {r : List V → Hp → VK → Prop} {op : D → Option D} (hc : CallR X (.builtin id) r) (h1 : Op1 X.K r op) (hg : Gl X x) (hm : X.mg x = none) (hv : bootBuiltins x = some (.builtin id)) (ha : EP X g E a fa) (hn : x ≠ "__name__" := by decide) (hdb : (x == ("__debug__" : Str)) = false := by decide)
    (hs : starEach [a] X.env = [(false, eval a X.env)] := by rfl) : EV X g E (.Call (.Name x p) [a] [] pos) (bnd fa fun x => lft (op x)) :=
  PE_imp (pe_callB hc hg hm hv (pa_cons ha pa_nil hs) hn hdb hs rfl) fun σ H Q hq => tX_op1 h1 hq
theorem ev_callT1 {T : String} {r : List V → Hp → VK → Prop} {op : D → Option D} (hc : CallR X (.type T) r) (h1 : Op1 X.K r op) (hg : Gl X x) (hm : X.mg x = none) (hv : bootBuiltins x = some (.type T)) (ha : EP X g E a fa) (hn : x ≠ "__name__" := by decide) (hdb : (x == ("__debug__" : Str)) = false := by decide)
    (hs : starEach [a] X.env = [(false, eval a X.env)] := by rfl) : EV X g E (.Call (.Name x p) [a] [] pos) (bnd fa fun x => lft (op x)) :=
  PE_imp (pe_callTy hc hg hm hv (pa_cons ha pa_nil hs) hn hdb hs rfl) fun σ H Q hq => tX_op1 h1 hq
theorem CallR.or {f : Value} {r r' : List V → Hp → VK → Prop} (h : CallR X f r) (h' : CallR X f r') : CallR X f (fun xs H Q => r xs H Q ∨ r' xs H Q) := by
  intro pins s σ H xs us Q I rv q
  rcases q with q | q
  · exact h pins s σ H xs us Q I rv q
  · exact h' pins s σ H xs us Q I rv q
/-! ### len -/
def lenD : D → Option D
  | .str z => if z.length ≤ sizeLine then some (.int z.length) else none
  | .dic ks _ => some (.int ks.length)
  | .dct ks _ => some (.int ks.length)
  | d => (seqD d).map fun xs => .int xs.length
def rLen (K : PySem.W.Frag) : List V → Hp → VK → Prop := fun xs H Q => (∃ x n, xs = [x] ∧ LenV K x H n ∧ Q (.int n) H) ∨ (∃ a kvs, xs = [V.ref a] ∧ Rd H a (.dK kvs) ∧ Q (.int kvs.length) H) ∨ (∃ a kvs, xs = [V.ref a] ∧ Rd H a (.dT kvs) ∧ Q (.int kvs.length) H)
theorem len_dK : CallR X (.builtin "len") (fun xs H Q => ∃ a kvs, xs = [V.ref a] ∧ Rd H a (.dK kvs) ∧ Q (.int kvs.length) H) := by
  intro pins s σ H xs us Q I rv ⟨a, kvs, ex, hd, hq⟩
  subst ex
  obtain ⟨u, rfl, z⟩ := vals1 rv
  cases z
  exact d_len I hd fun t _ J => ⟨.int kvs.length, H, J, ⟨t, rfl⟩, hq⟩
theorem len_dT : CallR X (.builtin "len") (fun xs H Q => ∃ a kvs, xs = [V.ref a] ∧ Rd H a (.dT kvs) ∧ Q (.int kvs.length) H) := by
  intro pins s σ H xs us Q I rv ⟨a, kvs, ex, hd, hq⟩
  subst ex
  obtain ⟨u, rfl, z⟩ := vals1 rv
  cases z
  obtain ⟨hz, hs, ys, hk, hdd⟩ := dt_rd I.hok hd
  have el : ys.length = kvs.length := (Paired.length hk).symm
  rw [sizeLine_eq] at hz
  refine call_len_dictH hs hdd (by omega) ?_
  rw [el]
  exact ⟨.int kvs.length, H, I.tok _, ⟨_, rfl⟩, hq⟩
theorem call_lenA : CallR X (.builtin "len") (rLen X.K) := CallR.or call_len (CallR.or len_dK len_dT)
theorem o1_len : Op1 X.K (rLen X.K) lenD := by
  intro g ρ σ ok H v x z Q w r e q
  have seq : ∀ xs, seqD x = some xs → z = .int xs.length → rLen X.K [v] H Q := fun xs es ez => by
    obtain ⟨a, vs, rfl, sq, rp⟩ := r.seq es
    refine .inl ⟨.ref a, vs.length, rfl, sq.imp (fun h => ⟨vs, h, rfl⟩) (fun h => ⟨vs, h, rfl⟩), ?_⟩
    subst ez
    rw [rp.length]
    exact q.at w (.int _)
  cases x with
  | str s =>
    have e : (if s.length ≤ sizeLine then some (D.int s.length) else none) = some z := e
    split at e
    · cases e
      rw [r.str]
      exact .inl ⟨.str s, s.length, rfl, ⟨by assumption, rfl⟩, q.at w (.int _)⟩
    · cases e
  | dic ks vs =>
    cases e
    obtain ⟨a, kvs, rfl, h1, rfl, rp⟩ := r.dic
    refine .inr (.inl ⟨a, kvs, rfl, h1, ?_⟩)
    rw [List.length_map] at q
    exact q.at w (.int _)
  | dct ks vs =>
    cases e
    obtain ⟨a, kvs, rfl, h1, rfl, rp⟩ := r.dct
    refine .inr (.inr ⟨a, kvs, rfl, h1, ?_⟩)
    rw [List.length_map] at q
    exact q.at w (.int _)
  | lst xs => cases e; exact seq xs rfl rfl
  | tup xs => cases e; exact seq xs rfl rfl
  | flst xs => cases e; exact seq xs rfl rfl
  | ftup xs => cases e; exact seq xs rfl rfl
  | _ => cases e
/-! ### all, any -/
def blsD : List D → Option (List Bool)
  | [] => some []
  | d :: ds => match asB d, blsD ds with
    | some b, some bs => some (b :: bs)
    | _, _ => none
theorem Reps.bls {K : PySem.W.Frag} {ok : Addr → Prop} {H : Hp} : ∀ {vs : List V} {ds : List D} {bs : List Bool}, Reps K ok H vs ds → blsD ds = some bs → vs = bs.map V.bl
  | _, _, _, .nil, h => by cases h; rfl
  | _, _, _, .cons (d := d) (ds := ds) r t, h => by
    unfold blsD at h
    cases r with
    | bl b =>
      cases e2 : blsD ds with
      | none => rw [e2] at h; cases h
      | some bs => rw [e2] at h; cases h; rw [t.bls e2]; rfl
    | _ => cases h
def allD (k : List Bool → Bool) : D → Option D
  | .lst xs => (blsD xs).map fun bs => .bl (k bs)
  | _ => none
theorem o1_all : Op1 X.K (rAll X.K) (allD fun bs => bs.all id) := by
  intro g ρ σ ok H v x z Q w r e q
  cases x with
  | lst xs =>
    obtain ⟨a, vs, rfl, h1, rp⟩ := r.lst
    have e : (blsD xs).map (fun bs => D.bl (bs.all id)) = some z := e
    cases eb : blsD xs with
    | none => rw [eb] at e; cases e
    | some bs =>
      rw [eb] at e
      cases e
      have ev := rp.bls eb
      subst ev
      exact ⟨a, bs, rfl, .inl (.inl h1), q.at w (.bl _)⟩
  | _ => cases e
theorem o1_any : Op1 X.K (rAny X.K) (allD fun bs => bs.any id) := by
  intro g ρ σ ok H v x z Q w r e q
  cases x with
  | lst xs =>
    obtain ⟨a, vs, rfl, h1, rp⟩ := r.lst
    have e : (blsD xs).map (fun bs => D.bl (bs.any id)) = some z := e
    cases eb : blsD xs with
    | none => rw [eb] at e; cases e
    | some bs =>
      rw [eb] at e
      cases e
      have ev := rp.bls eb
      subst ev
      exact ⟨a, bs, rfl, .inl (.inl h1), q.at w (.bl _)⟩
  | _ => cases e
/-! ### isinstance -/
def tyS : D → Option String
  | .non => some "NoneType"
  | .bl _ => some "bool"
  | .int _ => some "int"
  | .str _ => some "str"
  | .lst _ => some "list"
  | .flst _ => some "list"
  | .tup _ => some "tuple"
  | .ftup _ => some "tuple"
  | .dic _ _ => some "dict"
  | .dct _ _ => some "dict"
  | .obj _ _ _ => none
  | .exn _ _ _ _ _ => none
  | .opq _ => none
  | .typ _ => none
/-- of which built-in type it is -/
def TyZ (K : PySem.W.Frag) (H : Hp) (v : V) (t : Value) : Prop := TyX K H v t ∨ ∃ a o kvs, v = .ref a ∧ H a = some (.frz o (.dT kvs)) ∧ t = .type "dict"
theorem call_isz : CallR X (.builtin "isinstance") (fun xs H Q => ∃ (v c : V) (t u : Value) (bb : Bool), xs = [v, c] ∧ ClsV c u ∧ TyZ X.K H v t ∧ PySem.W.kitOne X.K t u = some bb ∧ Q (.bl bb) H) := by
  intro pins s σ H xs us Q I rv ⟨v, c, t, u, bb, ex, hc, ty, hk, hq⟩
  rcases ty with ty | ⟨a, o, kvs, ev, ha, et⟩
  · exact call_isi pins s σ H xs us Q I rv ⟨v, c, t, u, bb, ex, hc, ty, hk, hq⟩
  · subst ex ev et
    obtain ⟨w1, w2, rfl, z1, z2⟩ := vals2 rv
    cases z1
    have e2 := hc.eq z2
    subst e2
    have there : ∃ ob, s.heap.get? a = some ob ∧ ob.cls = .type "dict" := by
      obtain ⟨_, _, _, _, ob, _, _, g1, g2, _⟩ := (show ObjOk X.prog X.w H s.heap a (.dT kvs) from Rd.ok (.inr ⟨o, ha⟩) I.hok)
      exact ⟨ob, g1, g2.1⟩
    exact PySem.W.kia_one PySem.W.kitx_dict I.kIn there hk (fun z => nomatch z) fun tk => ⟨.bl bb, H, I.tok tk, rfl, hq⟩
theorem Pk.ty {K : PySem.W.Frag} {ok : Addr → Prop} {H : Hp} {v : V} {d : D} {t : String} (r : Pk K ok H v d) (h : tyS d = some t) : TyZ K H v (.type t) := by
  rcases r with r | ⟨q, rfl, o⟩
  · cases r with
    | non => cases h; exact .inl (.base .non)
    | bl b => cases h; exact .inl (.base (.bl b))
    | int i => cases h; exact .inl (.base (.int i))
    | str x => cases h; exact .inl (.base (.str x))
    | lst h1 _ _ => cases h; exact .inl (.base (.lst h1))
    | lstF h1 _ =>
      cases h
      rcases h1 with ⟨o, h1⟩ | ⟨o, its, n, hk, hc, _⟩
      · exact .inl (.base (.frz h1))
      · exact .inl (.kList hk hc)
    | tup h1 _ => cases h; exact .inl (.base (.tup h1))
    | tupF h1 _ =>
      cases h
      rcases h1 with ⟨o, h1⟩ | ⟨o, its, n, hk, hc, _⟩
      · exact .inl (.fTuple h1)
      · exact .inl (.kTuple hk hc)
    | dic h1 _ =>
      cases h
      rcases h1 with ⟨h1, _⟩ | ⟨o, h1⟩
      · exact .inl (.base (.dK h1))
      · exact .inl (.fDict h1)
    | dct h1 _ =>
      cases h
      rcases h1 with ⟨h1, _⟩ | ⟨o, h1⟩
      · exact .inl (.base (.dT h1))
      · exact .inr ⟨_, o, _, rfl, h1, rfl⟩
    | obj _ _ => cases h
    | exn _ _ => cases h
    | opq _ => cases h
    | typ _ => cases h
  · cases d with
    | lst ds => cases h; obtain ⟨vs, h1, _⟩ := o; exact .inl (.base (.lst h1))
    | dic ks ds => cases h; obtain ⟨vs, h1, _⟩ := o; exact .inl (.base (.dK h1))
    | dct ks ds => cases h; obtain ⟨vs, h1, _⟩ := o; exact .inl (.base (.dT h1))
    | _ => exact o.elim
/-- isinstance(_, T) of a tree -/
def isi (T : String) (d : D) : Option D := (tyS d).bind fun t => (kitB t T).map D.bl
theorem ev_isi {T : String} {y : Str} {p2 : Pos} (hg : Gl X "isinstance") (hm : X.mg "isinstance" = none) (hgT : Gl X y) (hmT : X.mg y = none) (hvT : bootBuiltins y = some (.type T)) (ha : EP X g E a fa) (hn : y ≠ "__name__" := by decide) (hdb : (y == ("__debug__" : Str)) = false := by decide)
    (hs : starEach [a, .Name y p2] X.env = [(false, eval a X.env), (false, eval (.Name y p2) X.env)] := by rfl) (hs2 : starEach [.Name y p2] X.env = [(false, eval (.Name y p2) X.env)] := by rfl) :
    EV X g E (.Call (.Name "isinstance" p) [a, .Name y p2] [] pos) (bnd fa fun x => lft (isi T x)) := by
  refine PE_imp (pe_callB (x := "isinstance") call_isz hg hm (by decide +kernel) (pa_cons ha (pa_cons (pe_bltn (v := .ty T) hgT hmT hvT rfl hn hdb) pa_nil hs2) (by rw [hs, hs2])) (by decide) (by decide) (by rw [hs, hs2]) (by rw [hs2]; rfl)) fun σ H Q hq => ?_
  obtain ⟨ok, ρ, w, h⟩ := hq
  refine ⟨ok, ρ, w, (Rs.bnd (RA := relP X.K) h).mono fun v1 H1 hq => ?_⟩
  obtain ⟨ok1, ρ1, d, w1, f1, r1, h1⟩ := hq
  unfold lft at h1
  have r1 : Pk X.K ok1 H1 v1 d := r1
  cases et : tyS d with
  | none =>
    have : isi T d = none := by unfold isi; rw [et]; rfl
    rw [this] at h1
    exact h1.elim
  | some t =>
    have e1 : isi T d = (kitB t T).map D.bl := by unfold isi; rw [et]; rfl
    rw [e1] at h1
    cases ek : kitB t T with
    | none => rw [ek] at h1; exact h1.elim
    | some bb =>
      rw [ek] at h1
      exact ⟨v1, .ty T, .type t, .type T, bb, rfl, .ty T, r1.ty et, kit_ty ek, h1 (.bl bb) H1 ok1 w1 Sx.refl (.bl bb)⟩
/-! ### a < b < c -/
def chn (o o' : D → D → Option D) (fa fb fc : P D) : P D := bnd fa fun x => bnd fb fun y => bnd (lft ((o x y).bind asB)) fun k => if k = true then bnd fc fun z => lft (o' y z) else prt (.bl false)
theorem ev_chain {op op' : CmpOp} {r r' : R2} {o o' : D → D → Option D} (ho : OpR X (compareOp op) r) (h2 : Op2 X.K r o) (ho' : OpR X (compareOp op') r') (h2' : Op2 X.K r' o') (ha : EV X g E a fa) (hb : EV X g E b fb) (hc : EP X g E c fc)
    (hm : lastMarks [op, op'] [b, c] = false := by with_unfolding_all rfl) : EV X g E (.Compare a [op, op'] [b, c] pos) (chn o o' fa fb fc) := by
  refine PE_imp (pe_chain ho ho' ha hb hc hm) fun σ H Q hq => ?_
  obtain ⟨ok, ρ, w, h⟩ := hq
  refine ⟨ok, ρ, w, (Rs.bnd (RA := relD X.K) h).mono fun v1 H1 hq => ?_⟩
  obtain ⟨ok1, ρ1, x, w1, f1, r1, h1⟩ := hq
  refine ⟨ok1, ρ1, w1, (Rs.bnd (RA := relD X.K) h1).mono fun v2 H2 hq => ?_⟩
  obtain ⟨ok2, ρ2, y, w2, f2, r2, h3⟩ := hq
  cases e : o x y with
  | none => rw [e] at h3; exact h3.elim
  | some z =>
    rw [e] at h3
    refine h2 g ρ2 σ ok2 H2 v1 v2 x y z _ w2 (Rep.fr f2.fr r1) (.inl r2) e fun v H' ok' w' s' rz => ?_
    cases rz with
    | bl k =>
      refine ⟨k, rfl, ?_⟩
      have h3 : Rs X.K g E (relD X.K) σ ρ2 ok2 H2 ((if k = true then bnd fc fun z => lft (o' y z) else prt (.bl false)) ρ2) Q := h3
      cases k with
      | true =>
        rw [if_pos rfl] at h3 ⊢
        refine ⟨ok', ρ2, w', (Rs.bnd (RA := relP X.K) (h3.shift s' monoD)).mono fun v3 H3 hq => ?_⟩
        obtain ⟨ok3, ρ3, z3, w3, s3, r3, h4⟩ := hq
        unfold lft at h4
        cases e4 : o' y z3 with
        | none => rw [e4] at h4; exact h4.elim
        | some z4 => rw [e4] at h4; exact h2' g ρ3 σ ok3 H3 v2 v3 y z3 z4 Q w3 (Rep.fr s3.fr (Rep.fr s'.fr r2)) r3 e4 h4
      | false =>
        rw [if_neg Bool.false_ne_true] at h3 ⊢
        exact h3 (.bl false) H' ok' w' s' (.bl false)
    | _ => exact h3.elim
/-! ### range -/
def rngD (lo : Int) (n : Nat) : List D := (List.range n).map fun i => .int (lo + (i : Nat))
def rng1 : D → Option (List D)
  | .int j => if -(2 ^ 62) ≤ j ∧ j < 2 ^ 62 then some (rngD 0 j.toNat) else none
  | _ => none
theorem wk_range {K : PySem.W.Frag} {L : List Nat} {σ : L2.St} {ρ : En} {ok : Addr → Prop} {H : Hp} {lo : Int} {n : Nat} : WkOk K g L σ ρ (Itr lo n) (rngD lo n) ok H := by
  intro ok2 ρ2 σ2 H2 w2 f2 k2
  have ln : (rngD lo n).length = n := by unfold rngD; rw [List.length_map, List.length_range]
  refine ⟨fun i hi => ?_, ?_, fun i d x H3 hd y => ?_⟩
  · rw [ln] at hi; exact hi
  · rw [ln]; exact Nat.le_refl n
  · obtain ⟨rfl, rfl⟩ := y
    refine ⟨.inl rfl, ?_⟩
    unfold rngD at hd
    rw [List.getElem?_map] at hd
    cases e : (List.range n)[i]? with
    | none => rw [e] at hd; cases hd
    | some j =>
      rw [e] at hd
      cases hd
      have : j = i := by
        obtain ⟨h1, h2⟩ := List.getElem?_eq_some_iff.mp e
        rw [List.getElem_range] at h2
        exact h2.symm
      subst this
      exact .int _
theorem ei_range1 {tg : Expr} (hg : Gl X "range") (hm : X.mg "range" = none) (ha : EV X g E a fa) (hs : starEach [a] X.env = [(false, eval a X.env)] := by rfl) : EI X g E [] tg (.Call (.Name "range" p) [a] [] pos) (bnd fa fun d => lft (rng1 d)) := by
  refine PI_imp (pi_range1 hg hm (pa_cons ha pa_nil hs) hs) fun σ H R hq => ?_
  obtain ⟨ok, ρ, w, h⟩ := hq
  refine ⟨ok, ρ, w, ?_⟩
  cases e : fa ρ with
  | none => rw [bnd_none e] at h; exact h
  | some y =>
    cases y with
    | er c ns ds ρ' => rw [bnd_er e] at h; exact h
    | ok d ρ' =>
      rw [bnd_ok e] at h
      intro v H' ok' w' s' r'
      have r' : Rep X.K ok' H' v d := r'
      cases r' with
      | int j =>
        by_cases hz : -(2 ^ 62) ≤ j ∧ j < 2 ^ 62
        · have ez : rng1 (.int j) = some (rngD 0 j.toNat) := if_pos hz
          rw [ez] at h
          exact ⟨j, rfl, hz.1, hz.2, h _ H' ok' w' s' wk_range⟩
        · have ez : rng1 (.int j) = none := if_neg hz
          rw [ez] at h
          exact h.elim
      | _ => exact h.elim
/-! ### list(x), tuple(x) -/
theorem er_list (hg : Gl X "list") (hm : X.mg "list" = none) (ha : EP X g E a fa) (hs : starEach [a] X.env = [(false, eval a X.env)] := by rfl) : ER X g E (.Call (.Name "list" p) [a] [] pos) (bnd fa fun x => lft ((seqD x).map fun xs => .own (.lst xs))) := by
  refine PE_imp (pe_callTy (x := "list") call_list_of hg hm (by decide +kernel) (pa_cons ha pa_nil hs) (by decide) (by decide) hs rfl) fun σ H Q hq => ?_
  obtain ⟨ok, ρ, w, h⟩ := hq
  refine ⟨ok, ρ, w, (Rs.bnd (RA := relP X.K) h).mono fun v1 H1 hq => ?_⟩
  obtain ⟨ok1, ρ1, d, w1, f1, r1, h1⟩ := hq
  unfold lft at h1
  have r1 : Pk X.K ok1 H1 v1 d := r1
  cases es : seqD d with
  | none => rw [es] at h1; exact h1.elim
  | some xs =>
    rw [es] at h1
    obtain ⟨q, vs, rfl, sq, rp⟩ := r1.seq es
    refine ⟨q, vs, rfl, sq, fun l nl => ?_⟩
    exact h1 _ _ (sub1 ok1 l) (w1.newO nl) (Sx.newO nl) (own_new w1 nl ⟨vs, upd_same, rp.fr (fr_sub nl)⟩)
def tupD : D → Option D
  | .lst xs => some (.tup xs)
  | .tup xs => some (.tup xs)
  | _ => none
theorem o1_tuple : Op1 X.K (fun xs H Q => ∃ p ys, xs = [.ref p] ∧ ((SqL X.K H p ys ∧ ∀ l, H l = none → Q (.ref l) (upd H l (.tup ys))) ∨ (SqT X.K H p ys ∧ Q (.ref p) H))) tupD := by
  intro g ρ σ ok H v x z Q w r e q
  cases x with
  | lst xs =>
    cases e
    obtain ⟨a, vs, rfl, h1, rp⟩ := r.lst
    exact ⟨a, vs, rfl, .inl ⟨.inl (.inl h1), fun l nl => q.new w nl fun kp ep f => .tup ep (rp.fr f)⟩⟩
  | tup xs =>
    cases e
    obtain ⟨a, vs, rfl, h1, rp⟩ := r.tup
    exact ⟨a, vs, rfl, .inr ⟨.inl (.inl h1), q.at w (.tup h1 rp)⟩⟩
  | _ => cases e
end
end Pu
/-! What the printed texts use. -/
namespace Pu
open PySem PySem.Spec PyProof.Rows L2 Kv
/-- a def that may be called by its name -/
structure Cal (P' : Program) (w : World) (K : PySem.W.Frag) (mg : Str → Option Value) (base : Heap) (k n : Nat) (x : Str) (F : P R) : Prop where
  ex : ∃ f fd ps, FnG P' w K mg base (L2.CX P' w) k f fd ps (spP K n F) ∧ ps.length = n ∧ mg x = some (.ref f) ∧ PySem.W.keepIn K (.ref f) = true ∧ Binds K fd ps []
/-- a method -/
structure CalM (P' : Program) (w : World) (K : PySem.W.Frag) (mg : Str → Option Value) (base : Heap) (C : Addr) (k n : Nat) (m : Str) (F : P R) : Prop where
  ex : ∃ f fd ps, FnG P' w K mg base (L2.CX P' w) k f fd ps (spP K n F) ∧ Meth K C m f ∧ Cls K C ∧ Binds K fd ps []
/-- what the end tells of a def -/
structure Def (K : PySem.W.Frag) (mg : Str → Option Value) (x : Str) (st : Stmt) (ps : List Str) : Prop where
  ex : ∃ f fd, Fun K x x st f fd ∧ Binds K fd ps [] ∧ mg x = some (.ref f)
structure DefM (K : PySem.W.Frag) (C : Addr) (x qual : Str) (st : Stmt) (ps : List Str) : Prop where
  ex : ∃ f fd, Fun K x qual st f fd ∧ Binds K fd ps [] ∧ Meth K C x f ∧ Cls K C
section
variable {P' : Program} {w : World} {K : PySem.W.Frag} {mg : Str → Option Value} {base : Heap}
theorem cal_mk {x : Str} {st : Stmt} {N ps : List Str} {k n : Nat} {B : List Nat} {body : S} (d : Def K mg x st ps) (S : FnScope N ps (defScope st)) (hn : ps.length = n)
    (hb : ∀ (f : Addr) (cdv : Value) (A : Around) (fr : List Env) (s : Shared) (H : Hp) (E : XK), A.guards = some [] → Room k (A.deeper (envOfC x (defScope st) s.heap.objs.size f cdv)) →
      ESs (cxOf (L2.CX P' w) P' w K mg base N x (defScope st) f cdv A fr s H E) ⟨H, B⟩ (fun _ => E) (defBody st) body) :
    Cal P' w K mg base (k + 1) n x (fnP N.length B body) := by
  obtain ⟨f, fd, F, b, m⟩ := d.ex
  subst hn
  exact ⟨f, fd, ps, fn_pure F S (hb f), rfl, m, F.kp, b⟩
theorem calM_mk {C : Addr} {x qual : Str} {st : Stmt} {N ps : List Str} {k n : Nat} {B : List Nat} {body : S} (d : DefM K C x qual st ps) (S : FnScope N ps (defScope st)) (hn : ps.length = n)
    (hb : ∀ (f : Addr) (cdv : Value) (A : Around) (fr : List Env) (s : Shared) (H : Hp) (E : XK), A.guards = some [] → Room k (A.deeper (envOfC qual (defScope st) s.heap.objs.size f cdv)) →
      ESs (cxOf (L2.CX P' w) P' w K mg base N qual (defScope st) f cdv A fr s H E) ⟨H, B⟩ (fun _ => E) (defBody st) body) :
    CalM P' w K mg base C (k + 1) n x (fnP N.length B body) := by
  obtain ⟨f, fd, F, b, m, c⟩ := d.ex
  subst hn
  exact ⟨f, fd, ps, fn_pure F S (hb f), m, c, b⟩
end
section
variable {X : Cx} {g : Gx} {E : Wx} {k n : Nat} {C : Addr} {x m : Str} {F : P R} {p pos apos : Pos} {e o : Expr} {es : List Expr}
theorem er_callC {fr : P (List D)} (c : Cal X.prog X.w X.K X.mg X.base k n x F) (hgd : X.A.guards = some []) (hr : Room k X.A) (hg : Gl X x) (hx : ∀ σ, PassesAt (L2.CX X.prog X.w) X σ (E σ)) (ha : EA X g E (e :: es) fr)
    (hdb : (x == ("__debug__" : Str)) = false := by decide) (he : starEach (e :: es) X.env = (false, eval e X.env) :: starEach es X.env := by rfl) (hpl : (backTo pos (starEach es X.env)).any (·.1) = false := by rfl) :
    ER X g E (.Call (.Name x p) (e :: es) [] pos) (bnd fr fun ds => if ds.length = n then app F ds else fun _ => none) := by
  obtain ⟨f, fd, ps, G, hn, m, kp, b⟩ := c.ex
  exact er_call G hn hgd hr hg m kp b hx ha hdb he hpl
theorem er_methC {fo : P D} {fr : P (List D)} {pl : Sem Bool} (c : CalM X.prog X.w X.K X.mg X.base C k n m F) (ho : EV X g E o fo) (hgd : X.A.guards = some []) (hr : Room k X.A) (hx : ∀ σ, PassesAt (L2.CX X.prog X.w) X σ (E σ)) (ha : EA X g E (e :: es) fr)
    (hst : starEach (e :: es) X.env = (false, eval e X.env) :: starEach es X.env := by rfl) (hpl : (backTo pos (starEach es X.env)).any (·.1) = false := by rfl)
    (ht : eval (.Call (.Attribute o m apos) (e :: es) [] pos) X.env = (do
      let ov ← eval o X.env
      standAt apos.atName
      let (f, first) ← holding [ov] (getMethod ov m pl)
      callWith pos f first (backTo pos (starEach (e :: es) X.env)) (backToKw pos (keywordEach [] X.env))) := by rfl) :
    ER X g E (.Call (.Attribute o m apos) (e :: es) [] pos) (bnd fo fun d => if isObj C m d = true then bnd fr fun ds => if ds.length + 1 = n then app F (d :: ds) else fun _ => none else fun _ => none) := by
  obtain ⟨f, fd, ps, G, hm, cl, b⟩ := c.ex
  exact er_meth ho cl hm G hgd hr b hx ha hst hpl ht
theorem er_methC0 {fo : P D} {pl : Sem Bool} (c : CalM X.prog X.w X.K X.mg X.base C k n m F) (ho : EV X g E o fo) (hgd : X.A.guards = some []) (hr : Room k X.A) (hx : ∀ σ, PassesAt (L2.CX X.prog X.w) X σ (E σ))
    (ht : eval (.Call (.Attribute o m apos) [] [] pos) X.env = (do
      let ov ← eval o X.env
      standAt apos.atName
      let (f, first) ← holding [ov] (getMethod ov m pl)
      callWith pos f first (backTo pos (starEach [] X.env)) (backToKw pos (keywordEach [] X.env))) := by rfl) :
    ER X g E (.Call (.Attribute o m apos) [] [] pos) (bnd fo fun d => if isObj C m d = true ∧ 1 = n then app F [d] else fun _ => none) := by
  obtain ⟨f, fd, ps, G, hm, cl, b⟩ := c.ex
  exact er_meth0 ho cl hm G hgd hr b hx ht
/-- in a comprehension's block nothing is raised -/
theorem pass_no {σ : L2.St} : PassesAt (L2.CX X.prog X.w) X σ (noE σ) := fun _ _ _ _ _ _ c => by
  obtain ⟨_, _, _, _, _, _, _, _, _, _, _, _, z⟩ := c
  exact z.elim
/-! names -/
theorem evn (i : Nat) {x : Str} {pos : Pos} (hN : X.N[i]? = some x := by rfl) (hv : Vis X.env.scope x := by first | exact Or.inl rfl | exact Or.inr (Or.inl rfl) | exact Or.inr (Or.inr rfl)) (hd : (x == ("__debug__" : Str)) = false := by decide)
    (hcd : (x == ("__classdict__" : Str)) = false := by decide) : EV X g E (.Name x pos) (rd i) := ev_name hN hv hd hcd
theorem epn (i : Nat) {x : Str} {pos : Pos} (hN : X.N[i]? = some x := by rfl) (hv : Vis X.env.scope x := by first | exact Or.inl rfl | exact Or.inr (Or.inl rfl) | exact Or.inr (Or.inr rfl)) (hd : (x == ("__debug__" : Str)) = false := by decide)
    (hcd : (x == ("__classdict__" : Str)) = false := by decide) : EP X g E (.Name x pos) (pk i) := ep_name hN hv hd hcd
theorem ein (i : Nat) {tg : Expr} {x : Str} {pos : Pos} (hN : X.N[i]? = some x := by rfl) (hv : Vis X.env.scope x := by first | exact Or.inl rfl | exact Or.inr (Or.inl rfl) | exact Or.inr (Or.inr rfl)) (hd : (x == ("__debug__" : Str)) = false := by decide)
    (hcd : (x == ("__classdict__" : Str)) = false := by decide) : EI X g E [i] tg (.Name x pos) (seqP (pk i)) := ei_name hN hv hd hcd
theorem eixn (i : Nat) {x : Str} {b : Expr} {fb : P D} {pos p : Pos} (hu : X.A.units + 1 < cLine) (hb : EV X g E b fb) (hs : PlainIx b := by intro _ _; rfl) (hN : X.N[i]? = some x := by rfl) (hv : Vis X.env.scope x := by first | exact Or.inl rfl | exact Or.inr (Or.inl rfl) | exact Or.inr (Or.inr rfl)) (hd : (x == ("__debug__" : Str)) = false := by decide)
    (hcd : (x == ("__classdict__" : Str)) = false := by decide) : EV X g E (.Subscript (.Name x p) b pos) (ixN' i fb) := ev_ixN hu hN hv hb hs hd hcd
theorem eret (i : Nat) {x : Str} {pos p : Pos} (hB : i ∉ g.B := by decide) (hN : X.N[i]? = some x := by rfl) (hv : Vis X.env.scope x := by first | exact Or.inl rfl | exact Or.inr (Or.inl rfl) | exact Or.inr (Or.inr rfl)) (hd : (x == ("__debug__" : Str)) = false := by decide)
    (hcd : (x == ("__classdict__" : Str)) = false := by decide) : ES X g E (.Return (some (.Name x p)) pos) (sb (mv i) fun r ρ => some (.rt r ρ)) := es_retV hN hv hB hd hcd
theorem pts0 {K : PySem.W.Frag} {E : Wx} : PTs X [] (tX K g E relB (prt true)) := ⟨fun pins s σ H Q I h => by
  obtain ⟨ok, ρ, w, h⟩ := h
  exact (pts_nil (X := X)).run pins s σ H Q I (h true H ok w Sx.refl rfl)⟩
theorem pts1 {c : Expr} {E : Wx} {f : P Bool} (h : ET X g E c f) : PTs X [c] (tX X.K g E relB f) := pts_one h
/-! what stays -/
theorem kp_nil {α : Type} {f : P α} : Kp [] f := fun _ _ _ _ l hl => by cases hl
theorem kp_prt {α : Type} {L : List Nat} {a : α} : Kp L (prt a) := fun ρ b ρ' h l _ => by cases h; rfl
theorem kp_lft {α : Type} {L : List Nat} {o : Option α} : Kp L (lft o) := fun ρ b ρ' h l _ => by
  cases o with
  | none => cases h
  | some a => cases h; rfl
theorem kp_bnd {α β : Type} {L : List Nat} {m : P α} {k : α → P β} (h1 : Kp L m) (h2 : ∀ a, Kp L (k a)) : Kp L (bnd m k) := fun ρ b ρ' h l hl => by
  cases e : m ρ with
  | none => rw [bnd_none e] at h; cases h
  | some x =>
    cases x with
    | er c ns ds ρ1 => rw [bnd_er e] at h; cases h
    | ok a ρ1 => rw [bnd_ok e] at h; rw [h2 a ρ1 b ρ' h l hl, h1 ρ a ρ1 e l hl]
theorem kp_pk {L : List Nat} {i : Nat} : Kp L (pk i) := fun ρ b ρ' h l _ => by
  obtain ⟨d, e, _⟩ := pk_inv h
  cases e
  rfl
theorem kp_rd {L : List Nat} {i : Nat} (hi : i ∉ L) : Kp L (rd i) := fun ρ b ρ' h l hl => by
  unfold rd at h
  cases e : ρ[i]? with
  | none => rw [e] at h; cases h
  | some s =>
    rw [e] at h
    cases s with
    | un => cases h
    | val d => cases h; rfl
    | own d =>
      cases h
      rw [List.getElem?_set_ne (fun z => hi (by rw [z]; exact hl))]
theorem kp_none {α : Type} {L : List Nat} : Kp L (fun _ => none : P α) := fun ρ b ρ' h => by cases h
theorem kp_ite {α : Type} {L : List Nat} {c : Prop} [Decidable c] {f f' : P α} (h : Kp L f) (h' : Kp L f') : Kp L (if c then f else f') := by
  split
  · exact h
  · exact h'
theorem kp_app {L : List Nat} {F : P R} {ds : List D} : Kp L (app F ds) := fun ρ b ρ' h l _ => by
  unfold app at h
  cases e : F (vals ds) with
  | none => rw [e] at h; cases h
  | some x =>
    rw [e] at h
    cases x with
    | ok r _ => cases h; rfl
    | er c ns es _ => cases h
theorem kp_ix {L : List Nat} {i : Nat} {f : P D} (h : Kp L f) : Kp L (ixN' i f) := kp_bnd kp_pk fun _ => kp_bnd h fun _ => kp_bnd kp_pk fun _ => kp_lft
theorem kp_lcL {L : List Nat} {T : Tg} {ft : P Bool} {fe : P D} (hT : ∀ l ∈ L, l ∉ T.ix) (h1 : Kp L ft) (h2 : Kp L fe) : ∀ (ds : List D) (ρ : En) (acc : List D) (ys : List D) (ρ' : En), lcL T ft fe ds ρ acc = some (ys, ρ') → ∀ l ∈ L, ρ'[l]? = ρ[l]?
  | [], ρ, acc, ys, ρ', h, l, hl => by cases h; rfl
  | d :: ds, ρ, acc, ys, ρ', h, l, hl => by
    obtain ⟨ρ1, eg, h⟩ := lcL_cons h
    rcases h with ⟨ρ2, et, h⟩ | ⟨ρ2, y, ρ3, et, ee, _, h⟩
    · rw [kp_lcL hT h1 h2 ds _ _ _ _ h l hl, wipeE_get (hT l hl), h1 _ _ _ et l hl, gset_keep eg (hT l hl)]
    · rw [kp_lcL hT h1 h2 ds _ _ _ _ h l hl, wipeE_get (hT l hl), h2 _ _ _ ee l hl, h1 _ _ _ et l hl, gset_keep eg (hT l hl)]
theorem kp_lc {L : List Nat} {fi : P (List D)} {T : Tg} {ft : P Bool} {fe : P D} (hT : ∀ l ∈ L, l ∉ T.ix) (h0 : Kp L fi) (h1 : Kp L ft) (h2 : Kp L fe) : Kp L (lc fi T ft fe) := fun ρ b ρ' h l hl => by
  unfold lc at h
  cases e : fi ρ with
  | none => simp only [e] at h; cases h
  | some x =>
    cases x with
    | er c ns ds ρ1 => simp only [e] at h; cases h
    | ok ds ρ1 =>
      simp only [e] at h
      cases el : lcL T ft fe ds (wipeE ρ1 T.ix) [] with
      | none => simp only [el] at h; cases h
      | some z =>
        obtain ⟨ys, ρz⟩ := z
        simp only [el] at h
        cases h
        rw [kp_lcL hT h1 h2 ds _ _ _ _ el l hl, wipeE_get (hT l hl), h0 _ _ _ e l hl]
end
end Pu
/-! ==, slices, enumerate. -/
namespace Pu
open PySem PySem.Spec PyProof.Rows L2 Kv
mutual
def toPy : D → Option PyData
  | .non => some .none
  | .bl b => some (.bool b)
  | .int i => some (.int i)
  | .str x => some (.str x)
  | .lst xs => (toPys xs).map .list
  | .flst xs => (toPys xs).map .list
  | .tup xs => (toPys xs).map .tuple
  | .ftup xs => (toPys xs).map .tuple
  | .dic _ _ => none
  | .dct _ _ => none
  | .obj _ _ _ => none
  | .exn _ _ _ _ _ => none
  | .opq _ => none
  | .typ _ => none
def toPys : List D → Option (List PyData)
  | [] => some []
  | d :: ds => match toPy d, toPys ds with
    | some p, some ps => some (p :: ps)
    | _, _ => none
end
theorem map_some {α β : Type} {o : Option α} {f : α → β} {b : β} (h : o.map f = some b) : ∃ a, o = some a ∧ f a = b := by
  cases o with
  | none => cases h
  | some a => exact ⟨a, rfl, Option.some.inj h⟩
section
variable {K : PySem.W.Frag} {ok : Addr → Prop} {H : Hp}
mutual
theorem Rep.dp : ∀ {v : V} {d : D} {p : PyData}, Rep K ok H v d → toPy d = some p → Dp K H v p
  | _, _, _, .non, h => by cases h; exact .non
  | _, _, _, .bl b, h => by cases h; exact .bl b
  | _, _, _, .int i, h => by cases h; exact .int i
  | _, _, _, .str x, h => by cases h; exact .str x
  | _, _, _, .lst h1 _ r, h => by
    obtain ⟨ps, e, rfl⟩ := map_some (show (toPys _).map PyData.list = some _ from h)
    exact .lst (.inl (.inl h1)) (Reps.dp r e)
  | _, _, _, .lstF h1 r, h => by
    obtain ⟨ps, e, rfl⟩ := map_some (show (toPys _).map PyData.list = some _ from h)
    exact .lst h1.sq (Reps.dp r e)
  | _, _, _, .tup h1 r, h => by
    obtain ⟨ps, e, rfl⟩ := map_some (show (toPys _).map PyData.tuple = some _ from h)
    exact .tup (.inl (.inl h1)) (Reps.dp r e)
  | _, _, _, .tupF h1 r, h => by
    obtain ⟨ps, e, rfl⟩ := map_some (show (toPys _).map PyData.tuple = some _ from h)
    exact .tup h1.sq (Reps.dp r e)
  | _, _, _, .dic _ _, h => by cases h
  | _, _, _, .dct _ _, h => by cases h
  | _, _, _, .obj _ _, h => by cases h
  | _, _, _, .exn _ _, h => by cases h
  | _, _, _, .opq _, h => by cases h
  | _, _, _, .typ _, h => by cases h
theorem Reps.dp : ∀ {vs : List V} {ds : List D} {ps : List PyData}, Reps K ok H vs ds → toPys ds = some ps → DpAll K H vs ps
  | _, _, _, .nil, h => by cases h; exact .nil
  | _, _, _, .cons (d := d) (ds := ds) r t, h => by
    unfold toPys at h
    cases e1 : toPy d with
    | none => rw [e1] at h; cases h
    | some p =>
      cases e2 : toPys ds with
      | none => rw [e1, e2] at h; cases h
      | some ps => rw [e1, e2] at h; cases h; exact .cons (Rep.dp r e1) (Reps.dp t e2)
end
theorem Pk.dp {v : V} {d : D} {p : PyData} (r : Pk K ok H v d) (h : toPy d = some p) : Dp K H v p := by
  rcases r with r | ⟨q, rfl, o⟩
  · exact r.dp h
  · cases d with
    | lst ds =>
      obtain ⟨vs, h1, r⟩ := o
      obtain ⟨ps, e, rfl⟩ := map_some (show (toPys _).map PyData.list = some _ from h)
      exact .lst (.inl (.inl h1)) (Reps.dp r e)
    | dic ks ds => cases h
    | dct ks ds => cases h
    | _ => exact o.elim
theorem Pk.flat {v u : V} {d : D} (r : Pk K ok H v d) (h : flV d = some u) : v = u := by
  rcases r with r | ⟨q, rfl, o⟩
  · exact r.flat h
  · cases d <;> first | exact o.elim | cases h
end
def eqS (x y : D) : Option Bool := match flV x, flV y with
  | some u, some v => if scal u v = true then some (decide (u = v)) else none
  | _, _ => none
def eqP (x y : D) : Option Bool := match toPy x, toPy y with
  | some p, some q => if (SeqAt.shaped p && SeqAt.shaped q) = true then some (PyData.eqv p q) else none
  | _, _ => none
def eqA (x y : D) : Option Bool := (eqS x y).orElse fun _ => eqP x y
def opEq (x y : D) : Option D := (eqA x y).map D.bl
def opNe (x y : D) : Option D := (eqA x y).map fun b => D.bl (!b)
def rEqA (K : PySem.W.Frag) : R2 := fun x y H Q => rEq x y H Q ∨ rEqD K x y H Q
def rNeA (K : PySem.W.Frag) : R2 := fun x y H Q => rNe x y H Q ∨ rNeD K x y H Q
section
variable {X : Cx} {g : Gx} {E : Wx} {a b c e : Expr} {x : Str} {p pos : Pos} {fa fb fc : P D}
theorem op_eqA (hu : X.A.units + 64 < cLine) : OpR X (compareOp .Eq) (rEqA X.K) := op_eq.or (op_eqD hu)
theorem op_neA (hu : X.A.units + 64 < cLine) : OpR X (compareOp .NotEq) (rNeA X.K) := op_ne.or (op_neD hu)
theorem eqA_cases {K : PySem.W.Frag} {ok : Addr → Prop} {H : Hp} {u v : V} {x y : D} {k : Bool} (r1 : Rep K ok H u x) (r2 : Pk K ok H v y) (h : eqA x y = some k) :
    (scal u v = true ∧ k = decide (u = v)) ∨ ∃ p q, Dp K H u p ∧ Dp K H v q ∧ SeqAt.shaped p = true ∧ SeqAt.shaped q = true ∧ k = PyData.eqv p q := by
  unfold eqA at h
  cases e : eqS x y with
  | some k' =>
    rw [e] at h
    cases h
    unfold eqS at e
    cases e1 : flV x with
    | none => rw [e1] at e; cases e
    | some u' =>
      cases e2 : flV y with
      | none => rw [e1, e2] at e; cases e
      | some v' =>
        rw [e1, e2] at e
        have e : (if scal u' v' = true then some (decide (u' = v')) else none) = some k := e
        split at e
        · cases e
          have h1 := r1.flat e1
          have h2 := r2.flat e2
          subst h1; subst h2
          exact .inl ⟨by assumption, rfl⟩
        · cases e
  | none =>
    rw [e] at h
    have h : eqP x y = some k := h
    unfold eqP at h
    cases e1 : toPy x with
    | none => rw [e1] at h; cases h
    | some p =>
      cases e2 : toPy y with
      | none => rw [e1, e2] at h; cases h
      | some q =>
        rw [e1, e2] at h
        have h : (if (SeqAt.shaped p && SeqAt.shaped q) = true then some (PyData.eqv p q) else none) = some k := h
        split at h
        · rename_i hs
          cases h
          rw [Bool.and_eq_true] at hs
          exact .inr ⟨p, q, r1.dp e1, r2.dp e2, hs.1, hs.2, rfl⟩
        · cases h
theorem o2_eq : Op2 X.K (rEqA X.K) opEq := by
  intro g ρ σ ok H u v x y z Q w r1 r2 e q
  obtain ⟨k, ek, rfl⟩ := map_some e
  rcases eqA_cases r1 r2 ek with ⟨h1, rfl⟩ | ⟨p', q', h1, h2, h3, h4, rfl⟩
  · exact .inl ⟨h1, q.at w (.bl _)⟩
  · exact .inr ⟨p', q', h1, h2, h3, h4, q.at w (.bl _)⟩
theorem o2_ne : Op2 X.K (rNeA X.K) opNe := by
  intro g ρ σ ok H u v x y z Q w r1 r2 e q
  obtain ⟨k, ek, rfl⟩ := map_some e
  rcases eqA_cases r1 r2 ek with ⟨h1, rfl⟩ | ⟨p', q', h1, h2, h3, h4, rfl⟩
  · exact .inl ⟨h1, q.at w (.bl _)⟩
  · exact .inr ⟨p', q', h1, h2, h3, h4, q.at w (.bl _)⟩
/-! ### chains as tests -/
theorem et_chain {op op' : CmpOp} {r r' : R2} {o o' : D → D → Option D} (ho : OpR X (compareOp op) r) (h2 : Op2 X.K r o) (ho' : OpR X (compareOp op') r') (h2' : Op2 X.K r' o') (ha : EV X g E a fa) (hb : EV X g E b fb) (hc : EP X g E c fc)
    (hm : lastMarks [op, op'] [b, c] = false := by with_unfolding_all rfl) : ET X g E (.Compare a [op, op'] [b, c] pos) (tst (chn o o' fa fb fc)) := by
  refine PT_imp (pt_chain ho ho' ha hb hc hm) fun σ H Q hq => tX_tst (X := X) (f := chn o o' fa fb fc) (fun σ H Q hq => ?_) hq
  obtain ⟨ok, ρ, w, h⟩ := hq
  refine ⟨ok, ρ, w, (Rs.bnd (RA := relD X.K) h).mono fun v1 H1 hq => ?_⟩
  obtain ⟨ok1, ρ1, x, w1, f1, r1, h1⟩ := hq
  refine ⟨ok1, ρ1, w1, (Rs.bnd (RA := relD X.K) h1).mono fun v2 H2 hq => ?_⟩
  obtain ⟨ok2, ρ2, y, w2, f2, r2, h3⟩ := hq
  cases e : o x y with
  | none => rw [e] at h3; exact h3.elim
  | some z =>
    rw [e] at h3
    refine h2 g ρ2 σ ok2 H2 v1 v2 x y z _ w2 (Rep.fr f2.fr r1) (.inl r2) e fun v H' ok' w' s' rz => ?_
    cases rz with
    | bl k =>
      refine ⟨k, rfl, ?_⟩
      have h3 : Rs X.K g E (relD X.K) σ ρ2 ok2 H2 ((if k = true then bnd fc fun z => lft (o' y z) else prt (.bl false)) ρ2) _ := h3
      cases k with
      | true =>
        rw [if_pos rfl] at h3 ⊢
        refine ⟨ok', ρ2, w', (Rs.bnd (RA := relP X.K) (h3.shift s' monoD)).mono fun v3 H3 hq => ?_⟩
        obtain ⟨ok3, ρ3, z3, w3, s3, r3, h4⟩ := hq
        unfold lft at h4
        cases e4 : o' y z3 with
        | none => rw [e4] at h4; exact h4.elim
        | some z4 => rw [e4] at h4; exact h2' g ρ3 σ ok3 H3 v2 v3 y z3 z4 _ w3 (Rep.fr s3.fr (Rep.fr s'.fr r2)) r3 e4 h4
      | false =>
        rw [if_neg Bool.false_ne_true] at h3 ⊢
        exact h3 (.bl false) H' ok' w' s' (.bl false)
    | _ => exact h3.elim
end
end Pu
/-! A call to which a thing of one's own is lent. -/
namespace Pu
open PySem PySem.Spec PyProof.Rows L2 Kv
def appB (i : Nat) (F : P R) (n : Nat) (ds : List D) : P R := fun ρ => match ρ[i]? with
  | some (.own d) => if ds.length + 1 = n then match F (.own d :: vals ds) with
      | some (.ok r (.own d' :: _)) => some (.ok r (ρ.set i (.own d')))
      | some (.er c ns es (.own d' :: _)) => some (.er c ns es (ρ.set i (.own d')))
      | _ => none
    else none
  | _ => none
theorem lentS_get {ds : List D} {d : D} {j : Nat} {s : Slot} (h : (Slot.own d :: vals ds)[j]? = some s) : (j = 0 ∧ s = .own d) ∨ ∃ k x, j = k + 1 ∧ ds[k]? = some x ∧ s = .val x := by
  cases j with
  | zero => cases h; exact .inl ⟨rfl, rfl⟩
  | succ k =>
    have h : (vals ds)[k]? = some s := h
    unfold vals at h
    rw [List.getElem?_map] at h
    cases e : ds[k]? with
    | none => rw [e] at h; cases h
    | some x => rw [e] at h; cases h; exact .inr ⟨k, x, rfl, e, rfl⟩
section
variable {K : PySem.W.Frag} {g : Gx} {E : Wx} {ok : Addr → Prop} {ρ : En} {σ : L2.St} {H : Hp}
/-- behind a call: the lent thing is as the callee left it -/
theorem lent_back {i : Nat} {q : Addr} {d d' : D} {ds : List D} {vs : List V} {tl : En} {ok' : Addr → Prop} {H' : Hp} {n : Nat} (w : Wf K g ok ρ σ H) (hi : ρ[i]? = some (.own d)) (hq : σ[i]? = some (some (.ref q)))
    (w' : Wf K ⟨H, List.range n⟩ ok' (.own d' :: tl) ((V.ref q :: vs).map some) H') (s : Sx ((V.ref q :: vs).map some) (.own d :: vals ds) ok H (.own d' :: tl) ok' H') :
    Wf K g ok' (ρ.set i (.own d')) σ H' ∧ Sx σ ρ ok H (ρ.set i (.own d')) ok' H' := by
  have wq : ∀ a, wrs (.own d :: vals ds) ((V.ref q :: vs).map some) a → a = q := fun a ⟨j, e, h1, h2⟩ => by
    rcases lentS_get h1 with ⟨rfl, _⟩ | ⟨k, x, rfl, _, z⟩
    · cases h2; rfl
    · cases z
  obtain ⟨q0, e0, o0, nk0, b0⟩ := w.own i d hi
  rw [hq] at e0
  cases e0
  obtain ⟨q1, e1, o1, nk1, _⟩ := w'.own 0 d' rfl
  cases e1
  have oth : ∀ {j : Nat} {e : D}, j ≠ i → ρ[j]? = some (.own e) → ∃ p, σ[j]? = some (some (.ref p)) ∧ OwnAt K ok' H' p e ∧ ¬ ok' p ∧ (j ∈ g.B ∨ g.H0 p = none) := fun {j e} nj hj => by
    obtain ⟨p, ep, op, nkp, bp⟩ := w.own j e hj
    have pq : p ≠ q := fun z => nj (w.apart j i e d p hj hi ep (by rw [hq, z]))
    obtain ⟨u, hu, _⟩ := op.there
    refine ⟨p, ep, op.fr s.fr ?_, fun z => ?_, bp⟩
    · rw [hu]; exact (s.keep p u hu fun z => pq (wq p z)).same nkp
    · rcases s.grow p u hu z with z | z
      · exact nkp z
      · exact pq (wq p z)
  have own1 : ∀ {j : Nat} {e : D}, (ρ.set i (.own d'))[j]? = some (.own e) → ∃ x, ρ[j]? = some (.own x) := fun {j e} h => by
    by_cases hj : j = i
    · exact ⟨d, by rw [hj]; exact hi⟩
    · rw [List.getElem?_set_ne (Ne.symm hj)] at h; exact ⟨_, h⟩
  refine ⟨⟨by rw [List.length_set]; exact w.len, w'.fc, fun a z => w.h0 a (s.fr.all a z), fun j e z => ?_, fun j e z => ?_, fun j k d1 d2 p h1 h2 e1 e2 => ?_⟩, ⟨s.fr, fun a o ha na => s.keep a o ha fun z => na ?_, fun a ha => ?_, fun a o ha ka => (s.grow a o ha ka).imp id fun z => ?_⟩⟩
  · have hj : j ≠ i := fun y => by subst y; cases get_set_self z
    rw [List.getElem?_set_ne (Ne.symm hj)] at z
    obtain ⟨v, e1, r1⟩ := w.val j e z
    exact ⟨v, e1, r1.fr s.fr⟩
  · by_cases hj : j = i
    · subst hj
      cases get_set_self z
      exact ⟨q, hq, o1, nk1, b0⟩
    · rw [List.getElem?_set_ne (Ne.symm hj)] at z
      exact oth hj z
  · obtain ⟨x1, h1⟩ := own1 h1
    obtain ⟨x2, h2⟩ := own1 h2
    exact w.apart j k x1 x2 p h1 h2 e1 e2
  · exact ⟨i, d, hi, by rw [wq a z]; exact hq⟩
  · obtain ⟨j, e, h1, h2⟩ := ha
    obtain ⟨x1, h1⟩ := own1 h1
    exact ⟨j, x1, h1, h2⟩
  · exact ⟨i, d, hi, by rw [wq a z]; exact hq⟩
theorem appB_ok {i n : Nat} {F : P R} {q : Addr} {vs : List V} {ds : List D} {Q : VK} (w : Wf K g ok ρ σ H) (hq : σ[i]? = some (some (.ref q))) (r : Reps K ok H vs ds) (h : Rs K g E (relR K) σ ρ ok H (appB i F n ds ρ) Q) : spP K n F (.ref q :: vs) H Q (E σ) := by
  unfold appB at h
  cases hi : ρ[i]? with
  | none => rw [hi] at h; exact h.elim
  | some sl =>
    rw [hi] at h
    cases sl with
    | un => exact h.elim
    | val _ => exact h.elim
    | own d =>
      dsimp only at h
      split at h
      · rename_i hn
        obtain ⟨q0, e0, o0, nk0, b0⟩ := w.own i d hi
        rw [hq] at e0
        cases e0
        refine ⟨ok, .own d :: vals ds, by rw [List.length_cons, r.length]; exact hn, ⟨by unfold vals; simp [r.length], w.fc, fun _ h => h, fun j e z => ?_, fun j e z => ?_, fun j k d1 d2 p h1 h2 e1 e2 => ?_⟩, ?_⟩
        · rcases lentS_get z with ⟨_, y⟩ | ⟨k, x, rfl, ex, y⟩
          · cases y
          · cases y
            obtain ⟨v, ev, rv⟩ := r.getD ex
            exact ⟨v, by rw [List.map_cons, List.getElem?_cons_succ, List.getElem?_map, ev]; rfl, rv⟩
        · rcases lentS_get z with ⟨rfl, y⟩ | ⟨k, x, rfl, ex, y⟩
          · cases y
            exact ⟨q, rfl, o0, nk0, .inl (List.mem_range.mpr (by omega))⟩
          · cases y
        · rcases lentS_get h1 with ⟨rfl, _⟩ | ⟨_, _, _, _, y⟩
          · rcases lentS_get h2 with ⟨rfl, _⟩ | ⟨_, _, _, _, y⟩
            · rfl
            · cases y
          · cases y
        · cases e : F (.own d :: vals ds) with
          | none => rw [e] at h; exact h
          | some y =>
            rw [e] at h
            cases y with
            | ok r' as' =>
              cases as' with
              | nil => exact h.elim
              | cons s0 tl =>
                cases s0 with
                | un => exact h.elim
                | val _ => exact h.elim
                | own d' =>
                  intro v H' ok' w' s' r1
                  obtain ⟨w2, s2⟩ := lent_back w hi hq w' s'
                  refine h v H' ok' w2 s2 ?_
                  cases r' with
                  | val d => exact r1
                  | own d2 =>
                    obtain ⟨q2, e2, o2, nk2, n2, _⟩ := r1
                    refine ⟨q2, e2, o2, nk2, n2, fun j x hj z => ?_⟩
                    have : ∃ y, ρ[j]? = some (.own y) := by
                      by_cases hj' : j = i
                      · exact ⟨d, by rw [hj']; exact hi⟩
                      · rw [List.getElem?_set_ne (Ne.symm hj')] at hj; exact ⟨_, hj⟩
                    obtain ⟨y, hy⟩ := this
                    obtain ⟨p, ep, op, _⟩ := w.own j y hy
                    rw [z] at ep
                    cases ep
                    obtain ⟨u, hu, _⟩ := op.there
                    rw [n2] at hu
                    cases hu
            | er c ns es as' =>
              cases as' with
              | nil => exact h.elim
              | cons s0 tl =>
                cases s0 with
                | un => exact h.elim
                | val _ => exact h.elim
                | own d' =>
                  intro dx fs H' ok' w' s' e1 e2 e3
                  obtain ⟨w2, s2⟩ := lent_back w hi hq w' s'
                  exact h dx fs H' ok' w2 s2 e1 e2 e3
      · exact h.elim
end
section
variable {X : Cx} {g : Gx} {E : Wx} {k n : Nat} {C : Addr} {x y m : Str} {F : P R} {p p' pos apos : Pos} {e o : Expr} {es : List Expr}
/-- the arguments: the first a thing of one's own -/
def lentP (i : Nat) (fr : P (List D)) : P (List D) := fun ρ => match ρ[i]? with
  | some (.own _) => fr ρ
  | _ => none
def relL (K : PySem.W.Frag) (i : Nat) : Rl (List V) (List D) := fun _ ok H _ σ vs ds => ∃ q vs', vs = .ref q :: vs' ∧ σ[i]? = some (some (.ref q)) ∧ Reps K ok H vs' ds
theorem monoL {K : PySem.W.Frag} {i : Nat} : Mono (relL K i) := fun _ _ _ _ _ _ _ _ _ r => r
theorem pa_lent {i : Nat} {fr : P (List D)} (hN : X.N[i]? = some y) (hv : Vis X.env.scope y) (hr : EA X g E es fr) (hs : starEach (.Name y p' :: es) X.env = (false, eval (.Name y p') X.env) :: starEach es X.env := by rfl)
    (hd : (y == ("__debug__" : Str)) = false := by decide) (hcd : (y == ("__classdict__" : Str)) = false := by decide) : PA X (.Name y p' :: es) (tX X.K g E (relL X.K i) (lentP i fr)) := by
  refine PA_imp (pa_cons (pe_var hN hv hd hcd) hr hs) fun σ H Q hq => ?_
  obtain ⟨ok, ρ, w, h⟩ := hq
  unfold lentP at h
  cases hi : ρ[i]? with
  | none => rw [hi] at h; exact h.elim
  | some sl =>
    rw [hi] at h
    cases sl with
    | un => exact h.elim
    | val _ => exact h.elim
    | own d =>
      obtain ⟨q, eq, _⟩ := w.own i d hi
      refine ⟨_, eq, ok, ρ, w, ?_⟩
      have h : Rs X.K g E (relL X.K i) σ ρ ok H (fr ρ) Q := h
      cases e : fr ρ with
      | none => rw [e] at h; exact h
      | some z =>
        rw [e] at h
        cases z with
        | ok ds ρ' => exact fun vs H' ok' w' s' r' => h _ H' ok' w' s' ⟨q, vs, rfl, eq, r'⟩
        | er c ns ds ρ' => exact h
theorem er_callB {i : Nat} {fr : P (List D)} (c : Cal X.prog X.w X.K X.mg X.base k n x F) (hgd : X.A.guards = some []) (hr : Room k X.A) (hg : Gl X x) (hx : ∀ σ, PassesAt (L2.CX X.prog X.w) X σ (E σ)) (hN : X.N[i]? = some y) (hv : Vis X.env.scope y) (ha : EA X g E es fr)
    (hdb : (x == ("__debug__" : Str)) = false := by decide) (hd : (y == ("__debug__" : Str)) = false := by decide) (hcd : (y == ("__classdict__" : Str)) = false := by decide) (he : starEach (.Name y p' :: es) X.env = (false, eval (.Name y p') X.env) :: starEach es X.env := by rfl) (hpl : (backTo pos (starEach es X.env)).any (·.1) = false := by rfl) :
    ER X g E (.Call (.Name x p) (.Name y p' :: es) [] pos) (bnd (lentP i fr) fun ds => appB i F n ds) := by
  obtain ⟨f, fd, ps, G, hn, m, kp, b⟩ := c.ex
  refine PE_imp (pe_callGS G hgd hr hg m kp b hx (pa_lent hN hv ha he hd hcd) hdb he hpl) fun σ H Q hq => ?_
  obtain ⟨ok, ρ, w, h⟩ := hq
  refine ⟨ok, ρ, w, (Rs.bnd (RA := relL X.K i) h).mono fun vs H1 hq => ?_⟩
  obtain ⟨ok1, ρ1, ds, w1, s1, ⟨q, vs', rfl, eq, r1⟩, h1⟩ := hq
  exact appB_ok w1 eq r1 h1
end
end Pu
/-! Errors of the program's own over any built-in error: made, filled, raised. -/
namespace Er
open PySem PySem.Spec PyProof.Rows L2 Kv Pu
/-- what the written part says of an error class over B -/
structure Over (K : PySem.W.Frag) (C : Addr) (B newId initId : String) (bmB : List Value) : Prop where
  fb : ExcBaseFacts B newId initId bmB
  sf : StoreFacts B bmB "object.__setattr__" "object"
  ini : PySem.W.excInitIn K C bmB newId = true
  ovr : PySem.W.excOver K C bmB = true
  sa : PySem.W.findIn K (.ref C) "__setattr__" = some (some (.builtin "object.__setattr__"))
  hd : PySem.W.hasDictIn K C = true
  exC : PySem.W.subIn K (.ref C) (.type "BaseException") = some true
  tyC : PySem.W.typeIn K (.ref C) = some (.type "type")
  kC : PySem.W.keepIn K (.ref C) = true
theorem taker_of {K : PySem.W.Frag} {C : Addr} {f : Str} (h : PySem.W.findIn K (.ref C) f = some none) : PySem.W.takerIn K C f = some none := by
  unfold PySem.W.takerIn
  rw [h]
  rfl
section
variable {prog : Program} {w : World} {A : Around} {E : Value → Shared → Prop} {s : Shared} {K : PySem.W.Frag} {C : Addr} {B newId initId : String} {bmB : List Value}
/-- the first field: a dict is laid (mid), the error is told of it, then the field is stored in it -/
theorem field_first {a t : Addr} {f : Str} {u : Value} {Q : Unit → Shared → Prop} (T : Over K C B newId initId bmB) (kin : K.In s.heap) (ho : s.heap.get? a = some (PySem.HandSPX.excO C t)) (hno : PySem.W.findIn K (.ref C) f = some none)
    (h : ∀ (mid h' : Heap) (tk : Nat), (∀ b, b ≠ a → mid.get? b = (s.heap.push (PySem.W.dictOf [] 0)).get? b) → mid.get? a = some { cls := .ref C, dict := some s.heap.objs.size, data := .fields #[.ref t, .none, .none, .none, .bool false, .none] } →
      (∀ b, b ≠ s.heap.objs.size → h'.get? b = mid.get? b) → h'.Ns1 s.heap.objs.size (fun y => if y = f then some u else none) → Q () { s with heap := h', toks := tk }) :
    wpAny (model prog w) A (setAttr (.ref a) f u) Q E s := by
  obtain ⟨cd, hc, hdd⟩ := PySem.W.any_some T.hd
  have lt : a < s.heap.objs.size := Heap.lt_size ho
  refine PySem.W.set_plain (od := none) kin ⟨ho, rfl, rfl, trivial⟩ T.sa (PySem.W.osa_openX (s := { s with toks := s.toks + 1 }) (od := none) (r := none) T.sf kin ⟨ho, rfl, rfl, trivial⟩ T.ovr (taker_of hno) fun b => ?_)
  refine wpAny_bind (wpAny_pure (wpAny_bind (PySem.W.instanceDict_exc (s := { s with toks := s.toks + 1 }) ho (PySem.W.looks_clsIn kin hc) hdd ?_)))
  obtain ⟨hp, g, d, t0, os⟩ := s
  have far : a ≠ hp.objs.size := Nat.ne_of_lt lt
  refine PySem.HandSPX.store_in_new ?_ ?_
  · exact ⟨_, #[], _, (Heap.get?_update_ne _ _ _ _ (Ne.symm far)).trans (Heap.get?_push_at rfl rfl), rfl, fun e he => absurd he (by simp), fun _ => rfl⟩
  · intro h' tk' hn' sb
    have ho1 : (hp.push (PySem.W.dictOf [] 0)).get? a = some (PySem.HandSPX.excO C t) := Heap.get?_push_of_some _ ho
    exact h _ h' tk' (fun b hb => Heap.get?_update_ne _ _ _ _ hb) (Heap.get?_update_self _ ho1 rfl) (fun b hb => sb.2 b hb) hn'
/-- a later field -/
theorem field_next {a t dx : Addr} {f : Str} {u : Value} {m0 : Str → Option Value} {ns : List Str} {Q : Unit → Shared → Prop} (T : Over K C B newId initId bmB) (kin : K.In s.heap)
    (ho : s.heap.get? a = some { cls := .ref C, dict := some dx, data := .fields #[.ref t, .none, .none, .none, .bool false, .none] }) (hns : s.heap.Ns1 dx m0) (hw : Within m0 ns) (hz : ns.length ≤ 1000) (hno : PySem.W.findIn K (.ref C) f = some none)
    (h : ∀ h' tk, (∀ b o, b ≠ dx → s.heap.get? b = some o → h'.get? b = some o) → h'.Ns1 dx (fun y => if y = f then some u else m0 y) → Q () { s with heap := h', toks := tk }) :
    wpAny (model prog w) A (setAttr (.ref a) f u) Q E s := by
  obtain ⟨cd, hc, hdd⟩ := PySem.W.any_some T.hd
  obtain ⟨oD, _, _, hoD, _, _⟩ := hns.count hw
  obtain ⟨hp, g, d, t0, os⟩ := s
  have hcls : PySem.W.Looks (model prog w) hp (classData C) cd := PySem.W.looks_clsIn kin hc
  refine PySem.W.set_plain (od := some oD) kin ⟨ho, rfl, rfl, hoD⟩ T.sa (PySem.W.osa_openX (s := ⟨hp, g, d, t0 + 1, os⟩) (od := some oD) (r := none) T.sf kin ⟨ho, rfl, rfl, hoD⟩ T.ovr (taker_of hno) fun b => ?_)
  obtain ⟨nm, bs, mro, nsd, qn, hd, sn, sb, ab, col, del⟩ := cd
  dsimp only at hdd
  subst hdd
  dsimp only
  unfold Builtin.ObjectAttr.storeInOwnDict Builtin.ObjectAttr.ownDictForStores
  repeat (first | with_reducible refine PySem.OEX.store_in_old hns hw hz ?_ | with_reducible refine wpAny_loadPart_at ho ?_ | with_reducible refine hcls.at ?_ | wp_step)
  intro h' tk' hn' sb
  exact h h' tk' (fun b o hb he => (sb.2 b hb).trans he) hn'
end
end Er
/-! Errors of the program's own over any built-in error: the rules. -/
namespace Er
open PySem PySem.Spec PyProof.Rows L2 Kv Pu
theorem upd_there {H : Hp} {a : Addr} {o : HO} (h : H a = some o) : upd H a o = H := funext fun b => by
  by_cases z : b = a
  · rw [z, upd_same, h]
  · exact upd_ne z
theorem upd_swap {H : Hp} {a d : Addr} {o u v : HO} (n : d ≠ a) : upd (upd (upd H d u) a o) d v = upd (upd H d v) a o := funext fun b => by
  by_cases z : b = d
  · rw [z, upd_same, upd_ne n, upd_same]
  · rw [upd_ne z]
    by_cases y : b = a
    · rw [y, upd_same, upd_same]
    · rw [upd_ne y, upd_ne y, upd_ne z, upd_ne z]
section
variable {B newId initId : String} {bmB : List Value} {X : Cx} {pins : List (Addr × Obj)} {σ : L2.St} {H : Hp} {s : Shared} {a C : Addr} {f : Str} {A : Around} {E : Value → Shared → Prop}
/-- the error's first field: the dict is laid, the error points at it, the field is written: three steps -/
theorem fill_first {y : V} {u : Value} {Q : Unit → Shared → Prop} (T : Over X.K C B newId initId bmB) (I : Inv X pins σ H s) (ea : H a = some (exo a C none)) (no : PySem.W.findIn X.K (.ref C) f = some none) (r : RelV y u)
    (fin : ∀ d s', H d = none → d ≠ a → Inv X pins σ (upd (upd H d (exd d [(f, y)])) a (exo a C (some d))) s' → Q () s') : wpAny (model X.prog X.w) A (setAttr (.ref a) f u) Q E s := by
  obtain ⟨t, at0⟩ := exo_at I.hok ea
  refine field_first T I.kIn at0 no fun mid h' tk m1 m2 m3 m4 => ?_
  have apart : s.heap.objs.size ≠ a := Nat.ne_of_gt (Heap.lt_size at0)
  have new0 : H s.heap.objs.size = none := I.hok.fresh (Nat.le_refl _)
  have J1 := I.laid (t' := s.toks) (a := s.heap.objs.size) (o := exd s.heap.objs.size []) (h' := s.heap.push (PySem.W.dictOf [] 0)) (fun b o q => Heap.get?_push_of_some _ q) (Nat.le_refl _)
    (exd_ok (mA := fun _ => none) (Heap.Ns1.of_empty ⟨_, #[], _, Heap.get?_push_at rfl rfl, rfl, fun e he => absurd he (by simp), fun _ => rfl⟩) fun _ => trivial)
  have J2 := J1.write (t' := s.toks) (x := a) (e := a) (o := exo a C (some s.heap.objs.size)) (h' := mid) (by rw [upd_ne (Ne.symm apart), ea]; trivial) (Or.inl rfl) (fun b o n q => (m1 b n).trans q) ⟨_, m2⟩ (exo_ok m2)
  have J3 := J2.write (t' := tk) (x := s.heap.objs.size) (e := s.heap.objs.size) (o := exd s.heap.objs.size [(f, y)]) (h' := h') (by rw [upd_ne apart, upd_same]; trivial) (Or.inl rfl) (fun b o n q => (m3 b n).trans q)
    (have ⟨o, _, _, q, _⟩ := m4; ⟨o, q⟩) (exd_ok m4 (relO_put (fs := []) r fun _ => trivial))
  rw [upd_swap apart] at J3
  exact fin _ _ new0 apart J3
/-- a further field -/
theorem fill_more {y : V} {u : Value} {Q : Unit → Shared → Prop} {d : Addr} {fs : List (Str × V)} (T : Over X.K C B newId initId bmB) (I : Inv X pins σ H s) (ea : H a = some (exo a C (some d))) (ed : H d = some (exd d fs)) (few : fs.length ≤ 900)
    (no : PySem.W.findIn X.K (.ref C) f = some none) (r : RelV y u) (fin : ∀ s', Inv X pins σ (upd H d (exd d ((f, y) :: fs))) s' → Q () s') : wpAny (model X.prog X.w) A (setAttr (.ref a) f u) Q E s := by
  obtain ⟨t, at0⟩ := exo_at I.hok ea
  obtain ⟨held, names, tells⟩ := exd_at I.hok ed
  have few2 : (fs.map (·.1)).length ≤ 1000 := by rw [List.length_map]; omega
  refine field_next T I.kIn at0 names (within_of tells) few2 no fun h' tk stays now => ?_
  have there : ∃ o, h'.get? d = some o := have ⟨o, _, _, q, _⟩ := now; ⟨o, q⟩
  exact fin _ (I.write (t' := tk) (x := d) (e := d) (o := exd d ((f, y) :: fs)) (by rw [ed]; trivial) (Or.inl rfl) stays there (exd_ok now (relO_put r tells)))
/-- what B.__init__ does with the error is of no matter -/
theorem base_init {us : List Value} {Q : Value → Shared → Prop} (T : Over X.K C B newId initId bmB) (I : Inv X pins σ H s) (ea : H a = some (exo a C none)) (few : us.length ≤ sizeLine) (fin : ∀ s', Inv X pins σ H s' → Q .none s') :
    wpAny (model X.prog X.w) A (call (.builtin initId) (.ref a :: us)) Q E s := by
  obtain ⟨_, _, _, _, _, _, _, _, _, _, _, _, _, _, _, _, cls, tail⟩ := PySem.W.excInit_of I.kIn T.ini
  obtain ⟨t, at0⟩ := exo_at I.hok ea
  refine wpAny_call (PySem.HandSPX.init_base (t := s.toks) (g := s.gens) (d := s.drawn) (os := s.os) T.fb tail cls at0 few fun h' t2 stays at1 => fin _ ?_)
  have J := I.write (t' := s.toks) (x := a) (e := a) (o := exo a C none) (h' := h') (by rw [ea]; trivial) (Or.inl rfl) stays ⟨_, at1⟩ (exo_ok at1)
  rw [upd_there ea] at J
  exact J
end
/-- an own error class -/
def ExC (K : PySem.W.Frag) (C : Addr) : Prop := ∃ B newId initId bmB, Over K C B newId initId bmB
/-- what B.__init__(self, ..) asks -/
def tBeI (K : PySem.W.Frag) (B newId initId : String) (bmB : List Value) (ta : TA) : TE := fun σ H Q => ta σ H fun vs H1 => ∃ (a C : Addr) (ws : List V), vs = .ref a :: ws ∧ ws.length ≤ 1000 ∧ Over K C B newId initId bmB ∧ H1 a = some (exo a C none) ∧ Q .non H1
/-- what self.f = e asks: of an error without fields, or with some -/
def tOst (K : PySem.W.Frag) (f : Str) (to te : TE) : TS := fun D σ H => te σ H fun y H1 => to σ H1 fun x H2 => ∃ a C : Addr, x = .ref a ∧ ExC K C ∧ PySem.W.findIn K (.ref C) f = some none ∧
  ((H2 a = some (exo a C none) ∧ ∀ d, H2 d = none → d ≠ a → D.nx σ (upd (upd H2 d (exd d [(f, y)])) a (exo a C (some d)))) ∨
    ∃ (d : Addr) (fs : List (Str × V)), H2 a = some (exo a C (some d)) ∧ H2 d = some (exd d fs) ∧ fs.length ≤ 900 ∧ D.nx σ (upd H2 d (exd d ((f, y) :: fs))))
section
variable {X : Cx} {o e : Expr} {es : List Expr} {to te : TE} {ta : TA} {f : Str} {p p' p1 p2 pos : Pos} {B newId initId : String} {bmB : List Value}
theorem pe_binit {pl : Sem Bool} {Bs : Str} (hg : Gl X Bs) (hm : X.mg Bs = none) (hbt : bootBuiltins Bs = some (.type B)) (hty : typeOf (.type B) = pure (.type "type")) (hst : Manifest.isStub B = false) (hh : PySem.W.handedIn (.builtin initId) = true)
    (vV : PySem.W.findCls X.K (.type B) (.type "type") "__init__" = some (.val (.builtin initId))) (args : PA X (e :: es) ta)
    (form : eval (.Call (.Attribute (.Name Bs p1) "__init__" p2) (e :: es) [] pos) X.env = (eval (.Name Bs p1) X.env >>= fun ov => standAt p2.atName >>= fun _ => holding [ov] (getMethod ov "__init__" pl) >>= fun m =>
      callWith pos m.1 m.2 (backTo pos (starEach (e :: es) X.env)) (backToKw pos (keywordEach [] X.env))) := by rfl)
    (nn : Bs ≠ "__name__" := by decide) (nd : (Bs == ("__debug__" : Str)) = false := by decide) (one : starEach (e :: es) X.env = (false, eval e X.env) :: starEach es X.env := by rfl) (plain : (backTo pos (starEach es X.env)).any (·.1) = false := by rfl) :
    PE X (.Call (.Attribute (.Name Bs p1) "__init__" p2) (e :: es) [] pos) (tBeI X.K B newId initId bmB ta) := ⟨fun pins s σ H Q I asked => by
  obtain ⟨m, fr⟩ := I.fr
  refine PySem.W.methodCall_KW (ld_blt I hg hm hbt (PySem.W.method_type fr I.ok.mod.kin hty hst vV hh ?_) nn nd) form
  have go := args.run pos pins _ σ H _ (I.tok (s.toks + 1)) asked
  refine (PyProof.Rows.callWith_method1 (thn go fun us s1 got => ?_) one plain : wpAny _ _ (callWith pos (Value.builtin initId) [] (backTo pos (starEach (e :: es) X.env)) []) _ _ _)
  obtain ⟨_, H1, I1, r1, a, C, ws, rfl, few, T, ea, q⟩ := got
  match us, r1 with
  | u0 :: ur, .cons ra rs =>
    cases ra
    exact base_init T I1 ea (by rw [← Paired.length rs, sizeLine_eq]; omega) fun s' J => ⟨.non, H1, J, rfl, q⟩⟩
theorem ps_ost (ho : PE X o to) (he : PE X e te) (hs : swapsWith e (some (.Attribute o f p')) pos.line X.env = pure false := by rfl) : PS X (.Assign [.Attribute o f p'] e pos) (tOst X.K f to te) := ⟨fun pins s σ H D I asked => by
  refine plainObj_wpAny_Assign_Attribute (thn (he.run pins s σ H _ I asked) fun v s1 got1 => ?_) hs
  obtain ⟨y, H1, I1, r1, asked1⟩ := got1
  refine thn (ho.run pins s1 σ H1 _ I1 asked1) fun u s2 got2 => ?_
  obtain ⟨_, H2, I2, r2, a, C, rfl, ⟨B, nw, ni, bm, T⟩, no, way⟩ := got2
  cases r2
  rcases way with ⟨ea, q⟩ | ⟨d, fs, ea, ed, few, q⟩
  · exact fill_first T I2 ea no r1 fun d s' n ne J => ⟨σ, _, J, q d n ne⟩
  · exact fill_more T I2 ea ed few no r1 fun s' J => ⟨σ, _, J, q⟩⟩
/-- C(e, ..), its own __init__ keeping sp: the error is laid behind its tuple of arguments, __init__ is called, the error is let go -/
theorem pmk_ex {CX : CXT} {x : Str} {C fI : Addr} {k : Nat} {fd : FuncData} {ps : List Str} {sp : Sp} {ds : List Value} {dvs : List V} (T : ExC X.K C) (iC : PySem.W.findIn X.K (.ref C) "__init__" = some (some (.ref fI))) (tI : PySem.W.typeIn X.K (.ref fI) = some (.type "function"))
    (F1 : FnOk X.prog X.w X.K X.mg X.base CX k fI fd ps sp) (hr : Room (k + 1) X.A) (hb : Binds X.K fd ps ds) (hd : Vals dvs ds) (hx : Passes CX X (fun _ _ _ => False)) (hg : Gl X x) (hm : X.mg x = some (.ref C)) (args : PA X (e :: es) ta)
    (hdb : (x == ("__debug__" : Str)) = false := by decide) (one : starEach (e :: es) X.env = (false, eval e X.env) :: starEach es X.env := by rfl) (plain : (backTo pos (starEach es X.env)).any (·.1) = false := by rfl) :
    PMk X (.Call (.Name x p) (e :: es) [] pos) (tMkO C sp dvs ta) := fun pins s σ H Q I asked => by
  obtain ⟨B, newId, initId, bmB, T⟩ := T
  refine wpAny_Call_Name_kw (ld_glob I hg hm (PySem.W.callWith_K (h₀ := X.base) I.ok.mod.kin T.kC (thn (args.run pos pins s σ H _ I asked) fun us s1 got => ?_) one plain) hdb)
  obtain ⟨vs, H1, I1, r1, few, keeps⟩ := got
  refine ⟨I1.kIn, (?_ : wpAny _ _ (call (.ref C) us) _ _ _)⟩
  obtain ⟨hp, g, dr, tk, os⟩ := s1
  obtain ⟨_, _, _, _, _, _, _, _, _, _, _, _, _, _, _, _, cls, tail⟩ := PySem.W.excInit_of I1.kIn T.ini
  -- the new error's place
  generalize en : hp.objs.size + 1 = n
  have big : hp.objs.size ≤ n := by omega
  have asks := keeps n (I1.hok.fresh big)
  generalize eh : (hp.push (PySem.W.kdv_tup us)).push (PySem.HandSPX.excO C hp.objs.size) = hq
  have old : ∀ b o, hp.get? b = some o → hq.get? b = some o := fun b o q => by rw [← eh]; exact Heap.get?_push_of_some _ (Heap.get?_push_of_some _ q)
  have born : hq.get? n = some (PySem.HandSPX.excO C hp.objs.size) := by rw [← eh, ← en]; heap_get
  have I2 := I1.laid (t' := tk) (a := n) (o := exo n C none) (h' := hq) old big (exo_ok born)
  have all : Vals (V.ref n :: (vs ++ dvs)) (Value.ref n :: (us ++ ds)) := .cons rfl (r1.append hd)
  have fit : (Value.ref n :: us ++ ds).length = ps.length := all.length.symm.trans (F1.len _ _ _ _ asks)
  have few2 : us.length ≤ sizeLine := by rw [← Paired.length r1, sizeLine_eq]; omega
  have ran := F1.run _ X.stack _ _ ⟨Value.ref n :: us, []⟩ (Value.ref n :: (us ++ ds)) _ _ (fun _ _ _ => False) (hr.make C us []) (I2.env0.make C us []) (hb _ (Value.ref n :: us) I2.kIn fit) all asks
  subst en eh
  refine wpAny_call (PySem.HandSPX.call_own T.fb tail cls (PySem.W.looks_findIn I1.kIn iC) (fun self => PySem.W.bind_fn I1.kIn self tI) few2 (codeAny_mono ran fun r s' back => ?_))
  match r, back with
  | .error er, back => exact hx pins σ _ _ er s' I2 back
  | .ok (.ret u), back =>
    obtain ⟨_, H2, os2, bare2, un2, hok2, rv, rfl, d, fs, ea, ed, hd1, q2⟩ := back
    obtain ⟨h2, g2, d2, t2, os'⟩ := s'
    exact ⟨rv, mk_end (raises_own T.exC T.tyC) I1 big old un2 hok2 os2 bare2 ea ed hd1 q2⟩
  | .ok .next, back => exact back.elim
  | .ok .brk, back => exact back.elim
  | .ok .cont, back => exact back.elim
end
end Er
/-! raise, try and except, a caught error's fields. -/
namespace Pu
open PySem PySem.Spec PyProof.Rows L2 Kv
/-! ### raise C(e, ..) -/
/-- the promise of an error's __init__: the fields ns get the arguments -/
def spEx (C : Addr) (ns : List Str) (cond : List V → Hp → Prop) : Sp := fun vs H Q _ => ∃ a ws, vs = .ref a :: ws ∧ ws.length = ns.length ∧ H a = some (exo a C none) ∧ cond ws H ∧
  ∀ d, H d = none → d ≠ a → Q .non (upd (upd H a (exo a C (some d))) d (exd d (ns.zip ws).reverse))
/-- an error class that may be raised -/
structure RsC (P' : Program) (w : World) (K : PySem.W.Frag) (mg : Str → Option Value) (base : Heap) (k : Nat) (x : Str) (C : Addr) (ns : List Str) (cd : List D → Bool) : Prop where
  ex : ∃ (f : Addr) (fd : FuncData) (ps : List Str) (cond : List V → Hp → Prop), Er.ExC K C ∧ PySem.W.findIn K (.ref C) "__init__" = some (some (.ref f)) ∧ PySem.W.typeIn K (.ref f) = some (.type "function") ∧
    FnOk P' w K mg base CX0 k f fd ps (spEx C ns cond) ∧ Binds K fd ps [] ∧ mg x = some (.ref C) ∧ ps.length = ns.length + 1 ∧ ns.length ≤ 900 ∧ ∀ ok H vs ds, Reps K ok H vs ds → cd ds = true → ∀ a o, H a = none → cond vs (upd H a o)
section
variable {X : Cx} {g : Gx} {E : Wx} {k : Nat} {C : Addr} {x : Str} {ns : List Str} {cd : List D → Bool} {p pos pos' : Pos} {e : Expr} {es : List Expr}
def rs (C : Addr) (ns : List Str) (cd : List D → Bool) (ds : List D) : S := fun ρ => if ds.length = ns.length ∧ cd ds = true then some (.er (.ref C) ns.reverse ds.reverse ρ) else none
theorem zip_fst {α β : Type} : ∀ {xs : List α} {ys : List β}, ys.length = xs.length → (xs.zip ys).map (·.1) = xs
  | [], _, _ => by simp
  | x :: xs, [], h => by cases h
  | x :: xs, y :: ys, h => by simp [zip_fst (xs := xs) (ys := ys) (Nat.succ.inj h)]
theorem zip_snd {α β : Type} : ∀ {xs : List α} {ys : List β}, ys.length = xs.length → (xs.zip ys).map (·.2) = ys
  | [], [], _ => by simp
  | [], y :: ys, h => by cases h
  | x :: xs, [], h => by cases h
  | x :: xs, y :: ys, h => by simp [zip_snd (xs := xs) (ys := ys) (Nat.succ.inj h)]
theorem es_raise {fr : P (List D)} (c : RsC X.prog X.w X.K X.mg X.base k x C ns cd) (hc : X.calm = true) (tk : Takes X (fun cls d σ H => E σ cls d H)) (hr : Room (k + 1) X.A) (hg : Gl X x) (ha : EA X g E (e :: es) fr)
    (hdb : (x == ("__debug__" : Str)) = false := by decide) (he : starEach (e :: es) X.env = (false, eval e X.env) :: starEach es X.env := by rfl) (hpl : (backTo pos (starEach es X.env)).any (·.1) = false := by rfl) :
    ES X g E (.Raise (some (.Call (.Name x p) (e :: es) [] pos)) none pos') (sb fr fun ds => rs C ns cd ds) := by
  obtain ⟨f, fd, ps, cond, T, iC, tI, F1, b, m, hl, hz, hcd⟩ := c.ex
  refine PS_imp (ps_raise hc tk (Er.pmk_ex T iC tI F1 hr b .nil pass0 hg m ha hdb he hpl)) fun Dn σ H hq => ?_
  obtain ⟨ok, ρ, w, h⟩ := hq
  refine ⟨ok, ρ, w, (Ss.sb (RA := relA X.K) h).mono fun vs H1 hq => ?_⟩
  obtain ⟨ok1, ρ1, ds, w1, s1, r1, h1⟩ := hq
  have r1 : Reps X.K ok1 H1 vs ds := r1
  unfold rs at h1
  split at h1
  · rename_i hn
    obtain ⟨hn, hcc⟩ := hn
    have hv : vs.length = ns.length := by rw [r1.length]; exact hn
    refine ⟨by omega, fun a na => ⟨a, vs, by rw [List.append_nil], hv, upd_same, hcd ok1 H1 vs ds r1 hcc a _ na, fun d nd da => ⟨rfl, d, (ns.zip vs).reverse, ?_, upd_same, ?_, ?_⟩⟩⟩
    · rw [upd_ne (Ne.symm da), upd_same]
    · rw [upd_ne da] at nd; exact nd
    · rw [upd_ne da] at nd
      have eH : upd (del (upd (upd (upd H1 a (exo a C none)) a (exo a C (some d))) d (exd d (ns.zip vs).reverse)) a) d (.xd (ns.zip vs).reverse) = upd H1 d (.xd (ns.zip vs).reverse) := by
        funext b
        by_cases hb : b = d
        · subst hb; rw [upd_same, upd_same]
        · rw [upd_ne hb, upd_ne hb]
          by_cases hba : b = a
          · subst hba; rw [del_same]; exact na.symm
          · rw [del_ne hba, upd_ne hb, upd_ne hba, upd_ne hba]
      rw [eH]
      refine h1 d (ns.zip vs).reverse σ _ ok1 (w1.new nd) (Sx.new nd).y upd_same (by rw [List.map_reverse, zip_fst hv]) (by rw [List.map_reverse, zip_snd hv]; exact (r1.fr (fr_new nd)).rev)
  · exact h1.elim
end
/-! ### try .. except x as n -/
/-- the name goes -/
def unI (i : Nat) : Option Fl → Option Fl
  | some (.nx ρ) => some (.nx (ρ.set i .un))
  | some (.rt r ρ) => some (.rt r ρ)
  | some (.bk ρ) => some (.bk (ρ.set i .un))
  | some (.ct ρ) => some (.ct (ρ.set i .un))
  | _ => none
open Classical in
noncomputable def tryS (K : PySem.W.Frag) (c : Value) (i : Nat) (fb : S) (fh : Addr → Addr → Value → S) : S := fun ρ => match fb ρ with
  | some (.er c0 ns ds ρ') => match PySem.W.exmOne K c0 c with
    | some true => if h : ∃ fl, ∀ a dx, unI i (fh a dx c0 (ρ'.set i (.val (.exn a dx c0 ns ds)))) = some fl then some h.choose else none
    | some false => some (.er c0 ns ds ρ')
    | none => none
  | o => o
theorem tryS_ok {K : PySem.W.Frag} {c : Value} {i : Nat} {fb : S} {fh : Addr → Addr → Value → S} {ρ : En} {o : Option Fl} (h : fb ρ = o) (hn : ∀ c ns ds ρ', o ≠ some (.er c ns ds ρ')) : tryS K c i fb fh ρ = o := by
  unfold tryS
  rw [h]
  cases o with
  | none => rfl
  | some fl =>
    cases fl with
    | er c ns ds ρ' => exact absurd rfl (hn c ns ds ρ')
    | _ => rfl
theorem tryS_caught {K : PySem.W.Frag} {c c0 : Value} {i : Nat} {fb : S} {fh : Addr → Addr → Value → S} {ρ ρ' : En} {ns : List Str} {ds : List D} {fl : Fl} (h : fb ρ = some (.er c0 ns ds ρ')) (hx : PySem.W.exmOne K c0 c = some true)
    (hf : ∀ a dx, unI i (fh a dx c0 (ρ'.set i (.val (.exn a dx c0 ns ds)))) = some fl) : tryS K c i fb fh ρ = some fl := by
  unfold tryS
  rw [h]
  dsimp only
  rw [hx]
  dsimp only
  have ex : ∃ fl, ∀ a dx, unI i (fh a dx c0 (ρ'.set i (.val (.exn a dx c0 ns ds)))) = some fl := ⟨fl, hf⟩
  rw [dif_pos ex]
  have := (ex.choose_spec 0 0).symm.trans (hf 0 0)
  exact this
section
variable {K : PySem.W.Frag} {g : Gx} {E : Wx} {σ : L2.St} {ρ : En} {ok : Addr → Prop} {H : Hp}
theorem Wf.forget {i : Nat} (w : Wf K g ok ρ σ H) : Wf K g ok (ρ.set i .un) (σ.set i none) H := by
  have back : ∀ {j : Nat} {s : Slot}, s ≠ .un → (ρ.set i .un)[j]? = some s → ρ[j]? = some s ∧ (σ.set i none)[j]? = σ[j]? := fun {j s} ns h => by
    by_cases hj : j = i
    · subst hj
      exact absurd (get_set_self h) ns
    · rw [List.getElem?_set_ne (Ne.symm hj)] at h ⊢; exact ⟨h, rfl⟩
  refine ⟨by rw [List.length_set, List.length_set]; exact w.len, w.fc, w.h0, fun j e z => ?_, fun j e z => ?_, fun j k d1 d2 p h1 h2 e1 e2 => ?_⟩
  · obtain ⟨h1, h2⟩ := back (fun y => by cases y) z
    rw [h2]; exact w.val j e h1
  · obtain ⟨h1, h2⟩ := back (fun y => by cases y) z
    rw [h2]; exact w.own j e h1
  · obtain ⟨h3, h4⟩ := back (fun y => by cases y) h1
    obtain ⟨h5, h6⟩ := back (fun y => by cases y) h2
    rw [h4] at e1
    rw [h6] at e2
    exact w.apart j k d1 d2 p h3 h5 e1 e2
theorem Sy.set {i : Nat} {s : Slot} {v : Option V} (hB : i ∉ g.B) (ns : ∀ d, s ≠ .own d) : Sy g σ ρ ok H (σ.set i v) (ρ.set i s) ok H := by
  refine ⟨Fr.refl, fun _ _ h _ => .inl h, fun a ha => .inl ?_, fun _ _ _ k => .inl k, fun j hj => by rw [List.getElem?_set_ne (fun z => hB (by rw [z]; exact hj))], List.length_set ..⟩
  obtain ⟨j, d', h1, h2⟩ := ha
  have nj : j ≠ i := fun y => by subst y; exact ns d' (get_set_self h1).symm
  rw [List.getElem?_set_ne (Ne.symm nj)] at h1 h2
  exact ⟨j, d', h1, h2⟩
end
section
variable {X : Cx} {g : Gx} {E : Wx} {x n : Str} {c : Value} {i : Nat} {body suite : List Stmt} {b₀ : Stmt} {np pos pos' : Pos} {fb : S} {fh : Addr → Addr → Value → S}
def tHd (K : PySem.W.Frag) (g : Gx) (fh : Addr → Addr → Value → S) (a : Addr) (cls : Value) : Option Addr → TS
  | some dx => tS K g noE (fh a dx cls)
  | none => fun _ _ _ => False
theorem es_try (hs : X.stack = X.env :: X.outer) (hf : X.env.frame = some X.env.locals) (hN : X.N.Nodup) (hi : X.N[i]? = some n) (hln : X.env.kindOf n = some .local) (hc : Names X x c) (tk : Takes X (fun cls d σ H => E σ cls d H)) (hB : i ∉ g.B)
    (hb : ∀ (W : WX) (pn : List (Addr × Obj)) (xe : Value → Shared → Prop), Takes (X.tr pn xe) W → PassesOwn (model X.prog X.w) X.A X.env xe → ESs (X.tr pn xe) g (WE W) body fb)
    (hsu : ∀ (a : Addr) (oe : Obj) (cls : Value) (dx : Addr) (pn : List (Addr × Obj)), Zc cls (some dx) oe → (∃ vs, oe.data = .fields vs) → ESs (X.suite a ((a, oe) :: pn)) g noE (b₀ :: suite) (fh a dx cls)) :
    ES X g E (.Try body [.ExceptHandler (some (.Name x np)) (some n) (b₀ :: suite) pos'] [] [] pos) (tryS X.K c i fb fh) := by
  refine PS_imp (ps_try_as (tb := fun W => tS X.K g (WE W) fb) (ts := tHd X.K g fh) hs hf hN hi hln hc tk hb (fun a oe cls d pn hz ho => ?_)) fun Dn σ H hq => ?_
  · cases d with
    | none => exact PSs_imp pss_never fun _ _ _ z => z
    | some dx => exact hsu a oe cls dx pn hz ho
  · obtain ⟨ok, ρ, w, h⟩ := hq
    refine ⟨ok, ρ, w, ?_⟩
    unfold tryS at h
    cases e : fb ρ with
    | none => rw [e] at h; exact h
    | some fl =>
      rw [e] at h
      cases fl with
      | nx ρ' => exact h
      | rt r ρ' => exact h
      | bk ρ' => exact h
      | ct ρ' => exact h
      | er c0 ns ds ρ' =>
        dsimp only at h
        intro dx fs σ' H' ok' w' s' e1 e2 e3
        cases ex : PySem.W.exmOne X.K c0 c with
        | none => rw [ex] at h; exact h.elim
        | some b =>
          rw [ex] at h
          cases b with
          | false => exact ⟨false, ex, ⟨fun z => absurd z Bool.false_ne_true, fun _ => h dx fs σ' H' ok' w' s' e1 e2 e3⟩⟩
          | true =>
            dsimp only at h
            split at h
            · rename_i hh
              refine ⟨true, ex, fun _ a na => ?_, fun z => absurd z (fun y => Bool.false_ne_true y.symm)⟩
              have hfl := hh.choose_spec a dx
              generalize hh.choose = fl at h hfl
              have rp : Rep X.K ok' H' (.ref a) (.exn a dx c0 ns ds) := by subst e2; exact .exn e1 e3
              have w2 := w'.set (i := i) rp
              have s2 : Sy g σ ρ ok H (σ'.set i (some (.ref a))) (ρ'.set i (.val (.exn a dx c0 ns ds))) ok' H' := s'.trans (Sy.set hB (fun _ z => by cases z))
              refine ⟨ok', _, w2, ?_⟩
              cases ef : fh a dx c0 (ρ'.set i (.val (.exn a dx c0 ns ds))) with
              | none => rw [ef] at hfl; cases hfl
              | some f2 =>
                rw [ef] at hfl
                cases f2 with
                | nx ρ3 => cases hfl; exact fun σ3 H3 ok3 w3 s3 => h _ H3 ok3 w3.forget ((s2.trans s3).trans (Sy.set hB (fun _ z => by cases z)))
                | bk ρ3 => cases hfl; exact fun σ3 H3 ok3 w3 s3 => h _ H3 ok3 w3.forget ((s2.trans s3).trans (Sy.set hB (fun _ z => by cases z)))
                | ct ρ3 => cases hfl; exact fun σ3 H3 ok3 w3 s3 => h _ H3 ok3 w3.forget ((s2.trans s3).trans (Sy.set hB (fun _ z => by cases z)))
                | rt r ρ3 => cases hfl; exact fun v σ3 H3 ok3 w3 s3 r3 => h v σ3 H3 ok3 w3 (s2.trans s3) r3
                | er c4 n4 d4 ρ4 => cases hfl
            · exact h.elim
/-- the same, the written part named -/
theorem es_tryK {K0 : PySem.W.Frag} (hK : X.K = K0) (hs : X.stack = X.env :: X.outer) (hf : X.env.frame = some X.env.locals) (hN : X.N.Nodup) (hi : X.N[i]? = some n) (hln : X.env.kindOf n = some .local) (hc : Names X x c) (tk : Takes X (fun cls d σ H => E σ cls d H)) (hB : i ∉ g.B)
    (hb : ∀ (W : WX) (pn : List (Addr × Obj)) (xe : Value → Shared → Prop), Takes (X.tr pn xe) W → PassesOwn (model X.prog X.w) X.A X.env xe → ESs (X.tr pn xe) g (WE W) body fb)
    (hsu : ∀ (a : Addr) (oe : Obj) (cls : Value) (dx : Addr) (pn : List (Addr × Obj)), Zc cls (some dx) oe → (∃ vs, oe.data = .fields vs) → ESs (X.suite a ((a, oe) :: pn)) g noE (b₀ :: suite) (fh a dx cls)) :
    ES X g E (.Try body [.ExceptHandler (some (.Name x np)) (some n) (b₀ :: suite) pos'] [] [] pos) (tryS K0 c i fb fh) := by
  subst hK
  exact es_try hs hf hN hi hln hc tk hB hb hsu
/-! ### the caught error's fields -/
def exf (a dx : Addr) (cls : Value) (C : Addr) (f : Str) : D → Option D
  | .exn a' dx' _ ns vs => if a' = a ∧ dx' = dx ∧ cls = .ref C then valD ns vs f else none
  | _ => none
theorem ev_exf {a C dx : Addr} {oe : Obj} {cls : Value} {pn : List (Addr × Obj)} {e : Expr} {fe : P D} {f : Str} (T : XfC X.K C) (hno : PySem.W.findIn X.K (.ref C) f = some none)
    (hz : Zc cls (some dx) oe) (hf : ∃ vs, oe.data = .fields vs) (he : EV (X.suite a ((a, oe) :: pn)) g E e fe) (hb : attributeBase e f X.env (eval e X.env) = eval e X.env := by rfl) :
    EV (X.suite a ((a, oe) :: pn)) g E (.Attribute e f pos) (bnd fe fun d => lft (exf a dx cls C f d)) := by
  refine PE_imp (pe_xf T hno hz hf he hb) fun σ H Q hq => ?_
  obtain ⟨ok, ρ, w, h⟩ := hq
  refine ⟨ok, ρ, w, (Rs.bnd (RA := relD X.K) h).mono fun v H1 hq => ?_⟩
  obtain ⟨ok1, ρ1, d, w1, s1, r1, h1⟩ := hq
  unfold lft at h1
  have r1 : Rep X.K ok1 H1 v d := r1
  cases r1 with
  | exn hx rs =>
    rename_i a' dx' c' fs ds'
    by_cases hh : a' = a ∧ dx' = dx ∧ cls = .ref C
    · obtain ⟨rfl, rfl, rfl⟩ := hh
      have ef : exf a' dx' (.ref C) C f (.exn a' dx' c' (fs.map (·.1)) ds') = valD (fs.map (·.1)) ds' f := if_pos ⟨rfl, rfl, rfl⟩
      rw [ef] at h1
      obtain ⟨i1, i2⟩ := valD_rep f rs
      cases ez : valD (fs.map (·.1)) ds' f with
      | none => rw [ez] at h1; exact h1.elim
      | some z =>
        rw [ez] at h1
        obtain ⟨v, ev, rv⟩ := i1 z ez
        exact ⟨rfl, rfl, dx', fs, v, rfl, hx, by rw [lookup_valV]; exact ev, h1 v H1 ok1 w1 Sx.refl rv⟩
    · have ef : exf a dx cls C f (.exn a' dx' c' (fs.map (·.1)) ds') = none := if_neg hh
      rw [ef] at h1
      exact h1.elim
  | _ => exact h1.elim
end
end Pu
/-! Built-ins of several arguments, methods of texts, x[i] = v, walks over texts. -/
namespace Pu
open PySem PySem.Spec PyProof.Rows L2 Kv
section
variable {X : Cx} {g : Gx} {E : Wx} {a b c e o : Expr} {es : List Expr} {x : Str} {p pos apos cpos : Pos} {fa fb fo : P D} {fr : P (List D)}
/-! ### f(e, ..), f a built-in -/
def OpA (K : PySem.W.Frag) (r : List V → Hp → VK → Prop) (op : List D → Option D) : Prop := ∀ (g : Gx) (ρ : En) (σ : L2.St) (ok : Addr → Prop) (H : Hp) (vs : List V) (xs : List D) (z : D) (Q : VK), Wf K g ok ρ σ H → Reps K ok H vs xs → op xs = some z → Can K g ρ σ ok H z Q → r vs H Q
theorem ev_callA {id : String} {r : List V → Hp → VK → Prop} {op : List D → Option D} (hc : CallR X (.builtin id) r) (h1 : OpA X.K r op) (hg : Gl X x) (hm : X.mg x = none) (hv : bootBuiltins x = some (.builtin id)) (ha : EA X g E (e :: es) fr) (hn : x ≠ "__name__" := by decide) (hdb : (x == ("__debug__" : Str)) = false := by decide)
    (he : starEach (e :: es) X.env = (false, eval e X.env) :: starEach es X.env := by rfl) (hpl : (backTo pos (starEach es X.env)).any (·.1) = false := by rfl) :
    EV X g E (.Call (.Name x p) (e :: es) [] pos) (bnd fr fun ds => lft (op ds)) := by
  refine PE_imp (pe_callB hc hg hm hv ha hn hdb he hpl) fun σ H Q hq => ?_
  obtain ⟨ok, ρ, w, h⟩ := hq
  refine ⟨ok, ρ, w, (Rs.bnd (RA := relA X.K) h).mono fun vs H1 hq => ?_⟩
  obtain ⟨ok1, ρ1, ds, w1, s1, r1, h1'⟩ := hq
  unfold lft at h1'
  cases ez : op ds with
  | none => rw [ez] at h1'; exact h1'.elim
  | some z => rw [ez] at h1'; exact h1 g ρ1 σ ok1 H1 vs ds z Q w1 r1 ez h1'
def i2 (f : Int → Int → Option D) : List D → Option D
  | [.int i, .int j] => f i j
  | _ => none
theorem reps2 {K : PySem.W.Frag} {ok : Addr → Prop} {H : Hp} {vs : List V} {i j : Int} (r : Reps K ok H vs [.int i, .int j]) : vs = [.int i, .int j] := by
  cases r with
  | cons r1 rr =>
    cases rr with
    | cons r2 r3 =>
      cases r3
      cases r1
      cases r2
      rfl
theorem i2_inv {f : Int → Int → Option D} {ds : List D} {z : D} (h : i2 f ds = some z) : ∃ i j, ds = [.int i, .int j] ∧ f i j = some z := by
  unfold i2 at h
  split at h
  · exact ⟨_, _, rfl, h⟩
  · cases h
def maxI : List D → Option D := i2 fun i j => some (.int (if j > i then j else i))
def minI : List D → Option D := i2 fun i j => some (.int (if j < i then j else i))
def dvm : List D → Option D := i2 fun i j => if 0 < j ∧ j ≤ 1000000000000 then some (.tup [.int (i / j), .int (i % j)]) else none
def absI : List D → Option D
  | [.int i] => some (.int (if i < 0 then -i else i))
  | _ => none
theorem oa_max : OpA X.K (fun xs H Q => ∃ i j, xs = [.int i, .int j] ∧ Q (.int (if j > i then j else i)) H) maxI := by
  intro g ρ σ ok H vs ds z Q w r h q
  obtain ⟨i, j, rfl, h⟩ := i2_inv h
  cases h
  exact ⟨i, j, reps2 r, q.at w (.int _)⟩
theorem oa_min : OpA X.K (fun xs H Q => ∃ i j, xs = [.int i, .int j] ∧ Q (.int (if j < i then j else i)) H) minI := by
  intro g ρ σ ok H vs ds z Q w r h q
  obtain ⟨i, j, rfl, h⟩ := i2_inv h
  cases h
  exact ⟨i, j, reps2 r, q.at w (.int _)⟩
theorem oa_abs : OpA X.K (fun xs H Q => ∃ i, xs = [.int i] ∧ Q (.int (if i < 0 then -i else i)) H) absI := by
  intro g ρ σ ok H vs ds z Q w r h q
  unfold absI at h
  split at h
  · cases h
    cases r with
    | cons r1 rr => cases rr; cases r1; exact ⟨_, rfl, q.at w (.int _)⟩
  · cases h
theorem oa_divmod : OpA X.K (fun xs H Q => ∃ i j, xs = [.int i, .int j] ∧ CDivP i j ∧ ∀ p, H p = none → Q (.ref p) (upd H p (.tup [.int (i / j), .int (i % j)]))) dvm := by
  intro g ρ σ ok H vs ds z Q w r h q
  obtain ⟨i, j, rfl, h'⟩ := i2_inv (f := fun i j => if 0 < j ∧ j ≤ 1000000000000 then some (.tup [.int (i / j), .int (i % j)]) else none) h
  split at h'
  · rename_i hz
    cases h'
    exact ⟨i, j, reps2 r, divp_small hz.1 (Nat.lt_of_lt_of_le (show j.natAbs < 2 ^ 41 by omega) (Nat.pow_le_pow_right (by decide) (by decide))), fun p np => q.new w np fun _ e f => .tup e (.cons (.int _) (.cons (.int _) .nil))⟩
  · cases h'
/-! ### methods of texts -/
def OpM (K : PySem.W.Frag) (r : V → List V → Hp → VK → Prop) (op : Str → List D → Option D) : Prop := ∀ (g : Gx) (ρ : En) (σ : L2.St) (ok : Addr → Prop) (H : Hp) (t : Str) (vs : List V) (xs : List D) (z : D) (Q : VK), Wf K g ok ρ σ H → Reps K ok H vs xs → op t xs = some z → Can K g ρ σ ok H z Q → r (.str t) vs H Q
def mts (op : Str → List D → Option D) (fo : P D) (fr : P (List D)) : P D := bnd fo fun d => match d with
  | .str t => bnd fr fun ds => lft (op t ds)
  | _ => fun _ => none
theorem ev_bm {m : Str} {id : String} {r : V → List V → Hp → VK → Prop} {op : Str → List D → Option D} (slot : PySem.Slot "str" m id) (hty : typeOf (.builtin id) = pure (.type "method_descriptor")) (hr : MtR X id r) (hm : OpM X.K r op) (ho : EV X g E o fo) (ha : EA X g E (e :: es) fr)
    (hbase : attributeBase o m X.env (eval o X.env) = eval o X.env := by rfl)
    (hfew : ((backTo cpos (starEach (e :: es) X.env)).all (fun x => !x.1) && (backToKw cpos (keywordEach [] X.env)).all (fun x => x.1.isSome)
      && decide ((e :: es).length + ([] : List Keyword).length + (if ([] : List Keyword).isEmpty then 0 else 1) < 30)) = true := by rfl)
    (hline : (apos.endLine == cpos.line) = true := by rfl) (hs : starEach (e :: es) X.env = (false, eval e X.env) :: starEach es X.env := by rfl) (hplain : (backTo cpos (starEach es X.env)).any (·.1) = false := by rfl) :
    EV X g E (.Call (.Attribute o m apos) (e :: es) [] cpos) (mts op fo fr) := by
  refine PE_imp (pe_bm PySem.F.plainAttrs_str slot hty hr ho ha hbase hfew hline hs hplain) fun σ H Q hq => ?_
  obtain ⟨ok, ρ, w, h⟩ := hq
  refine ⟨ok, ρ, w, (Rs.bnd (RA := relD X.K) h).mono fun v H1 hq => ?_⟩
  obtain ⟨ok1, ρ1, d, w1, s1, r1, h1⟩ := hq
  have r1 : Rep X.K ok1 H1 v d := r1
  cases r1 with
  | str t =>
    refine ⟨?_, ok1, ρ1, w1, (Rs.bnd (RA := relA X.K) h1).mono fun vs H2 hq => ?_⟩
    · exact rfl
    · obtain ⟨ok2, ρ2, ds, w2, s2, r2, h2⟩ := hq
      unfold lft at h2
      cases ez : op t ds with
      | none => rw [ez] at h2; exact h2.elim
      | some z => rw [ez] at h2; exact hm g ρ2 σ ok2 H2 t vs ds z Q w2 r2 ez h2
  | _ => exact h1.elim
theorem ev_bm0 {m : Str} {id : String} {r : V → List V → Hp → VK → Prop} {op : Str → List D → Option D} (slot : PySem.Slot "str" m id) (hty : typeOf (.builtin id) = pure (.type "method_descriptor")) (hr : MtR X id r) (hm : OpM X.K r op) (ho : EV X g E o fo)
    (hbase : attributeBase o m X.env (eval o X.env) = eval o X.env := by rfl) (hline : (apos.endLine == cpos.line) = true := by rfl) :
    EV X g E (.Call (.Attribute o m apos) [] [] cpos) (mts op fo (prt [])) := by
  refine PE_imp (pe_bm0 PySem.F.plainAttrs_str slot hty hr ho hbase hline) fun σ H Q hq => ?_
  obtain ⟨ok, ρ, w, h⟩ := hq
  refine ⟨ok, ρ, w, (Rs.bnd (RA := relD X.K) h).mono fun v H1 hq => ?_⟩
  obtain ⟨ok1, ρ1, d, w1, s1, r1, h1⟩ := hq
  have r1 : Rep X.K ok1 H1 v d := r1
  cases r1 with
  | str t =>
    refine ⟨?_, ?_⟩
    · exact rfl
    · have h1 : Rs X.K g E (relD X.K) σ ρ1 ok1 H1 (bnd (prt []) (fun ds => lft (op t ds)) ρ1) Q := h1
      rw [bnd_ret] at h1
      unfold lft at h1
      cases ez : op t [] with
      | none => rw [ez] at h1; exact h1.elim
      | some z => rw [ez] at h1; exact hm g ρ1 σ ok1 H1 t [] [] z Q w1 .nil ez h1
  | _ => exact h1.elim
/-! ### targets that may be written things -/
/-- the target's step: what it does with a value -/
def tG (K : PySem.W.Frag) (g : Gx) (E : Wx) (h : D → S) : TG := fun v σ H Q => ∃ ok ρ d, Wf K g ok ρ σ H ∧ Rep K ok H v d ∧ Ss K g E σ ρ ok H (h d ρ) { nx := Q, rt := fun _ _ => False, bk := fun _ _ => False, ct := fun _ _ => False }
abbrev EG (X : Cx) (g : Gx) (E : Wx) (tg : Expr) (h : D → S) : Prop := PG X tg (tG X.K g E h)
theorem PG_imp {tg : Expr} {t t' : TG} (h : PG X tg t) (q : ∀ v σ H Q, t' v σ H Q → t v σ H Q) : PG X tg t' := ⟨fun pins s σ H v u Q I r z => h.run pins s σ H v u Q I r (q v σ H Q z)⟩
theorem eg_name {i : Nat} {y : Str} (hN : X.N.Nodup) (hi : X.N[i]? = some y) (hx : Loc X.env.scope y) (hB : i ∉ g.B) (hf : X.fn y = true ∨ X.env.scope.names.lookup y = some .local := by first | exact .inl rfl | exact .inr rfl | assumption) : EG X g E (.Name y pos) (fun d => put i (.val d)) := by
  refine PG_imp (pg_name hN hi hx hf) fun v σ H Q hq => ?_
  obtain ⟨ok, ρ, d, w, r, h⟩ := hq
  exact put_ok (Dn := { nx := Q, rt := fun _ _ => False, bk := fun _ _ => False, ct := fun _ _ => False }) (H0 := H) (r := .val d) w r (fun a ha => w.h0 a ha) (fun _ _ _ _ => trivial) hB (fun q hv hr => by cases hr) Sx.refl rfl h
/-- the name holds a thing of its own -/
def gdO (i : Nat) (f : S) : S := fun ρ => match ρ[i]? with
  | some (.own _) => f ρ
  | _ => none
/-- x[j] = d, x a list of one's own -/
def stIx (i : Nat) (j d : D) : S := fun ρ => match ρ[i]?, j with
  | some (.own (.lst xs)), .int k => match L2.ixN xs.length k with
    | some n => some (.nx (ρ.set i (.own (.lst (xs.set n d)))))
    | none => none
  | _, _ => none
theorem Reps.set {K : PySem.W.Frag} {ok : Addr → Prop} {H : Hp} : ∀ {vs : List V} {ds : List D} {n : Nat} {v : V} {d : D}, Reps K ok H vs ds → Rep K ok H v d → Reps K ok H (vs.set n v) (ds.set n d)
  | _, _, _, _, _, .nil, _ => .nil
  | _, _, 0, _, _, .cons _ t, r => .cons r t
  | _, _, n + 1, _, _, .cons a t, r => .cons a (Reps.set (n := n) t r)
theorem eg_sub {i : Nat} {y : Str} {ie : Expr} {fi : P D} (hN : X.N[i]? = some y) (hv : Vis X.env.scope y) (hi : EV X g E ie fi) (hd : (y == ("__debug__" : Str)) = false := by decide) (hcd : (y == ("__classdict__" : Str)) = false := by decide)
    (ha : ∀ v, assign (.Subscript (.Name y p) ie pos) X.env v = (do
      let ov ← holding [v] (eval (.Name y p) X.env)
      let iv ← holding [v, ov] (eval ie X.env)
      standAt pos
      holding [v, ov, iv] (setItem ov iv v)
      release [v, ov, iv] []) := by intro _; rfl) : EG X g E (.Subscript (.Name y p) ie pos) (fun d => gdO i (sb fi fun j => stIx i j d)) := by
  refine PG_imp (pg_sub (pe_var hN hv hd hcd) hi set_list ha) fun v σ H Q hq => ?_
  obtain ⟨ok, ρ, d, w, r, h⟩ := hq
  unfold gdO at h
  cases e0 : ρ[i]? with
  | none => simp only [e0] at h; exact h.elim
  | some s0 =>
    cases s0 with
    | un => simp only [e0] at h; exact h.elim
    | val _ => simp only [e0] at h; exact h.elim
    | own d00 =>
      simp only [e0] at h
      obtain ⟨u, hu, _⟩ := w.own i d00 e0
      refine ⟨.ref u, hu, ok, ρ, w, (Ss.sb (RA := relD X.K) h).mono fun jv H2 hq => ?_⟩
      obtain ⟨ok1, ρ1, j, w1, s1, r1, h1⟩ := hq
      have r1 : Rep X.K ok1 H2 jv j := r1
      unfold stIx at h1
      cases e1 : ρ1[i]? with
      | none => rw [e1] at h1; exact h1.elim
      | some sl =>
        rw [e1] at h1
        cases sl with
        | un => exact h1.elim
        | val _ => exact h1.elim
        | own d0 =>
          cases d0 with
          | lst xs =>
            cases r1 with
            | int k =>
              dsimp only at h1
              cases e2 : L2.ixN xs.length k with
              | none => rw [e2] at h1; exact h1.elim
              | some n =>
                rw [e2] at h1
                obtain ⟨q, eq, o, nk, _⟩ := w1.own i _ e1
                rw [hu] at eq
                cases eq
                obtain ⟨vs, hvs, rv⟩ := id o
                refine ⟨u, vs, k, n, rfl, rfl, hvs, by rw [rv.length]; exact e2, ?_⟩
                have rd : Rep X.K ok1 H2 v d := r.fr s1.fr
                have f : Fr ok1 H2 ok1 (upd H2 u (.lst (vs.set n v))) := .of (fun a x ha hk => by
                    have : a ≠ u := fun z => by
                      subst z
                      rw [hvs] at ha
                      cases ha
                      exact nk (hk trivial)
                    rw [upd_ne this]; exact ha) (fun _ _ _ k => k) (fun a ha => by
                  by_cases z : a = u
                  · rw [z, upd_same] at ha; cases ha
                  · rw [upd_ne z] at ha; exact ha)
                have ow : OwnAt X.K ok1 (upd H2 u (.lst (vs.set n v))) u (.lst (xs.set n d)) := ⟨_, upd_same, (rv.set rd).fr f⟩
                exact h1 σ _ ok1 (w1.write e1 hu ow).1 (Sx.write w1 e1 hu ow).y
            | _ => exact h1.elim
          | _ => exact h1.elim
/-- several targets, each with its value -/
def asgs : List (D → S) → List D → S
  | [], [] => sk
  | h :: hs, d :: ds => sq (h d) (asgs hs ds)
  | _, _ => fun _ => none
def tGs (K : PySem.W.Frag) (g : Gx) (E : Wx) (hs : List (D → S)) : TGs := fun vs σ H Q => ∃ ok ρ ds, Wf K g ok ρ σ H ∧ Reps K ok H vs ds ∧ Ss K g E σ ρ ok H (asgs hs ds ρ) { nx := Q, rt := fun _ _ => False, bk := fun _ _ => False, ct := fun _ _ => False }
abbrev EGs (X : Cx) (g : Gx) (E : Wx) (tgs : List Expr) (hs : List (D → S)) : Prop := PGs X tgs (tGs X.K g E hs)
theorem PGs_imp {tgs : List Expr} {t t' : TGs} (h : PGs X tgs t) (q : ∀ v σ H Q, t' v σ H Q → t v σ H Q) : PGs X tgs t' := ⟨fun pins s σ H v u Q I r z => h.run pins s σ H v u Q I r (q v σ H Q z)⟩
theorem egs_nil : EGs X g E [] [] := by
  refine PGs_imp pgs_nil fun vs σ H Q hq => ?_
  obtain ⟨ok, ρ, ds, w, r, h⟩ := hq
  cases r with
  | nil => exact ⟨rfl, h σ H ok w Sy.refl⟩
  | cons _ _ => exact h.elim
theorem egs_cons {tg : Expr} {tgs : List Expr} {h1 : D → S} {hs : List (D → S)} (a1 : EG X g E tg h1) (a2 : EGs X g E tgs hs) (hx : (assignEach (tg :: tgs) X.env).map (·.2) = assign tg X.env :: (assignEach tgs X.env).map (·.2) := by rfl) : EGs X g E (tg :: tgs) (h1 :: hs) := by
  refine PGs_imp (pgs_cons a1 a2 hx) fun vs σ H Q hq => ?_
  obtain ⟨ok, ρ, ds, w, r, h⟩ := hq
  cases r with
  | nil => exact h.elim
  | cons r1 rr =>
    rename_i v vs d ds
    refine ⟨v, vs, rfl, ok, ρ, d, w, r1, ?_⟩
    have h : Ss X.K g E σ ρ ok H (sq (h1 d) (asgs hs ds) ρ) { nx := Q, rt := fun _ _ => False, bk := fun _ _ => False, ct := fun _ _ => False } := h
    unfold sq at h
    cases e : h1 d ρ with
    | none => simp only [e] at h; exact h
    | some fl =>
      cases fl with
      | nx ρ' => simp only [e] at h; exact fun σ' H' ok' w' s' => ⟨ok', ρ', ds, w', rr.fr s'.fr, h.shift s'⟩
      | rt r ρ' => simp only [e] at h; exact h
      | bk ρ' => simp only [e] at h; exact h
      | ct ρ' => simp only [e] at h; exact h
      | er c ns ds ρ' => simp only [e] at h; exact h
/-- the items of a tuple -/
def tupOf : D → Option (List D)
  | .tup xs => some xs
  | .ftup xs => some xs
  | _ => none
theorem eg_tup {tgs : List Expr} {hs : List (D → S)} {k : Nat} (hc : X.calm = true) (h : EGs X g E tgs hs) (hn : (assignEach tgs X.env).length = hs.length := by rfl) (hst : (assignEach tgs X.env).findIdx? (·.1) = none := by rfl) :
    EG X g E (.Tuple tgs k pos) (fun d => sb (lft (tupOf d)) fun ds => if ds.length = hs.length then asgs hs ds else fun _ => none) := by
  refine PG_imp (pg_tup hc h hn hst) fun v σ H Q hq => ?_
  obtain ⟨ok, ρ, d, w, r, h⟩ := hq
  cases r with
  | tup ht rs =>
    rename_i a vs ds
    have h : Ss X.K g E σ ρ ok H ((if ds.length = hs.length then asgs hs ds else fun _ => none) ρ) _ := h
    by_cases hl : ds.length = hs.length
    · rw [if_pos hl] at h
      exact ⟨a, vs, rfl, .inl (.inl ht), by rw [rs.length]; exact hl, ok, ρ, ds, w, rs, h⟩
    · rw [if_neg hl] at h
      exact h.elim
  | tupF ht rs =>
    rename_i a vs ds
    have h : Ss X.K g E σ ρ ok H ((if ds.length = hs.length then asgs hs ds else fun _ => none) ρ) _ := h
    by_cases hl : ds.length = hs.length
    · rw [if_pos hl] at h
      exact ⟨a, vs, rfl, ht.sq, by rw [rs.length]; exact hl, ok, ρ, ds, w, rs, h⟩
    · rw [if_neg hl] at h
      exact h.elim
  | _ => exact h.elim
theorem es_asg {tg : Expr} {h : D → S} {fe : P D} (he : EV X g E e fe) (hg : EG X g E tg h) (hs : swapsWithSole [tg] e pos.line X.env = pure false := by rfl) (hw : swappedStores [tg] e X.env = pure none := by rfl)
    (h1 : (assignEach [tg] X.env).map (·.2) = [assign tg X.env] := by rfl) : ES X g E (.Assign [tg] e pos) (fun ρ => match sb fe h ρ with | some (.nx ρ') => some (.nx ρ') | some (.er c ns ds ρ') => some (.er c ns ds ρ') | _ => none) := by
  refine PS_imp (ps_asg he hg hs hw h1) fun Dn σ H hq => ?_
  obtain ⟨ok, ρ, w, hq⟩ := hq
  have hq : Ss X.K g E σ ρ ok H (sb fe h ρ) { nx := Dn.nx, rt := fun _ _ => False, bk := fun _ _ => False, ct := fun _ _ => False } := by
    cases e0 : sb fe h ρ with
    | none => simp only [e0] at hq; exact hq
    | some fl =>
      cases fl with
      | nx ρ' => simp only [e0] at hq; exact hq
      | er c ns ds ρ' => simp only [e0] at hq; exact hq
      | rt r ρ' => simp only [e0] at hq; exact hq.elim
      | bk ρ' => simp only [e0] at hq; exact hq.elim
      | ct ρ' => simp only [e0] at hq; exact hq.elim
  refine ⟨ok, ρ, w, (Ss.sb (RA := relD X.K) hq).mono fun v H1 hq => ?_⟩
  obtain ⟨ok1, ρ1, d, w1, s1, r1, h1'⟩ := hq
  exact ⟨ok1, ρ1, d, w1, r1, h1'⟩
/-! ### a text's letters -/
def lettersD (x : Str) : List D := x.cps.toList.map fun c => .str ⟨#[c]⟩
def strP : D → Option (List D)
  | .str x => some (lettersD x)
  | _ => none
theorem wk_str {K : PySem.W.Frag} {L : List Nat} {σ : L2.St} {ρ : En} {ok : Addr → Prop} {H : Hp} {x : Str} : WkOk K g L σ ρ (Its x) (lettersD x) ok H := by
  intro ok2 ρ2 σ2 H2 w2 f2 k2
  have ln : (lettersD x).length = x.cps.size := by unfold lettersD; rw [List.length_map, Array.length_toList]
  refine ⟨fun i hi => ?_, ?_, fun i d y H3 hd yl => ?_⟩
  · rw [ln] at hi; exact hi
  · rw [ln]; exact Nat.le_refl _
  · obtain ⟨rfl, c, hc, rfl⟩ := yl
    refine ⟨.inl rfl, ?_⟩
    unfold lettersD at hd
    rw [List.getElem?_map, Array.getElem?_toList, hc] at hd
    cases hd
    exact .str _
theorem ei_str {tg : Expr} (ha : EV X g E a fa) : EI X g E [] tg a (bnd fa fun d => lft (strP d)) := by
  refine PI_imp (pi_str ha) fun σ H R hq => ?_
  obtain ⟨ok, ρ, w, h⟩ := hq
  refine ⟨ok, ρ, w, ?_⟩
  cases e : fa ρ with
  | none => rw [bnd_none e] at h; exact h
  | some y =>
    cases y with
    | er c ns ds ρ' => rw [bnd_er e] at h; exact h
    | ok d ρ' =>
      rw [bnd_ok e] at h
      intro v H' ok' w' s' r'
      have r' : Rep X.K ok' H' v d := r'
      cases r' with
      | str x => exact ⟨x, rfl, h _ H' ok' w' s' wk_str⟩
      | _ => exact h.elim
end
end Pu
/-! Slices, repr, join, upper, dict(pairs). -/
namespace Pu
open PySem PySem.Spec PyProof.Rows L2 Kv
section
variable {X : Cx} {g : Gx} {E : Wx} {a b c e o : Expr} {es : List Expr} {x : Str} {p p2 pos apos cpos : Pos} {fa fb fo fe : P D} {fr : P (List D)}
/-! ### slices -/
abbrev relO : Rl (Option Int) (Option Int) := fun _ _ _ _ _ v d => v = d
theorem monoO : Mono relO := fun _ _ _ _ _ _ _ _ _ r => r
abbrev EO (X : Cx) (g : Gx) (E : Wx) (e : Option Expr) (f : P (Option Int)) : Prop := PO X e (tX X.K g E relO f)
theorem PO_imp {e : Option Expr} {t t' : TO} (h : PO X e t) (q : ∀ σ H Q, t' σ H Q → t σ H Q) : PO X e t' := ⟨fun pins s σ H Q I z => h.run pins s σ H Q I (q σ H Q z)⟩
theorem eo_none : EO X g E none (prt none) := PO_imp po_none fun σ H Q hq => tX_ret (X := X) (v := (none : Option Int)) hq fun _ _ _ => rfl
def asI : D → Option (Option Int)
  | .int i => some (some i)
  | _ => none
theorem eo_some (h : EV X g E e fe) : EO X g E (some e) (bnd fe fun d => lft (asI d)) := by
  refine PO_imp (po_some h) fun σ H Q hq => ?_
  obtain ⟨ok, ρ, w, h⟩ := hq
  refine ⟨ok, ρ, w, (Rs.bnd (RA := relD X.K) h (mo := monoO)).mono fun v H1 hq => ?_⟩
  obtain ⟨ok1, ρ1, d, w1, s1, r1, h1⟩ := hq
  have r1 : Rep X.K ok1 H1 v d := r1
  cases r1 with
  | int i => exact ⟨i, rfl, h1 _ H1 ok1 w1 Sx.refl rfl⟩
  | _ => exact h1.elim
def cutD (xs : List D) (lo hi : Option Int) : List D := (xs.drop (HT.sIx xs.length 0 lo)).take (HT.sIx xs.length xs.length hi - HT.sIx xs.length 0 lo)
theorem Reps.cut {K : PySem.W.Frag} {ok : Addr → Prop} {H : Hp} {vs : List V} {ds : List D} {lo hi : Option Int} (r : Reps K ok H vs ds) : Reps K ok H (cutV vs lo hi) (cutD ds lo hi) := by
  unfold cutV cutD
  rw [r.length]
  exact (r.drop _).take _
def lstOf : D → Option (List D)
  | .lst xs => some xs
  | .flst xs => some xs
  | _ => none
theorem Rep.lstOf {K : PySem.W.Frag} {ok : Addr → Prop} {H : Hp} {v : V} {d : D} {xs : List D} (r : Rep K ok H v d) (h : Pu.lstOf d = some xs) : ∃ a vs, v = .ref a ∧ SqL K H a vs ∧ Reps K ok H vs xs := by
  cases r with
  | lst h1 k r => cases h; exact ⟨_, _, rfl, .inl (.inl h1), r⟩
  | lstF h1 r => cases h; exact ⟨_, _, rfl, h1.sq, r⟩
  | _ => cases h
theorem er_slice {lo hi : Option Expr} {fl fh : P (Option Int)} (he : EV X g E e fe) (hl : EO X g E lo fl) (hu : EO X g E hi fh) :
    ER X g E (.Subscript e (.Slice lo hi none p2) pos) (bnd fe fun d => bnd fl fun l => bnd fh fun h => lft ((lstOf d).map fun xs => .own (.lst (cutD xs l h)))) := by
  refine PE_imp (pe_slice sl_list he hl hu) fun σ H Q hq => ?_
  obtain ⟨ok, ρ, w, h⟩ := hq
  refine ⟨ok, ρ, w, (Rs.bnd (RA := relD X.K) h).mono fun v H1 hq => ?_⟩
  obtain ⟨ok1, ρ1, d, w1, s1, r1, h1⟩ := hq
  refine ⟨ok1, ρ1, w1, (Rs.bnd (RA := relO) h1).mono fun l H2 hq => ?_⟩
  obtain ⟨ok2, ρ2, l', w2, s2, rfl, h2⟩ := hq
  refine ⟨ok2, ρ2, w2, (Rs.bnd (RA := relO) h2).mono fun u H3 hq => ?_⟩
  obtain ⟨ok3, ρ3, u', w3, s3, rfl, h3⟩ := hq
  unfold lft at h3
  cases el : lstOf d with
  | none => rw [el] at h3; exact h3.elim
  | some xs =>
    rw [el] at h3
    obtain ⟨q, vs, rfl, hq, rv⟩ := Rep.lstOf ((Rep.fr s2.fr r1).fr s3.fr) el
    refine ⟨q, vs, rfl, hq, fun p np => h3 _ _ (sub1 ok3 p) (w3.newO np) (Sx.newO np) (own_new w3 np ⟨_, upd_same, ?_⟩)⟩
    exact rv.cut.fr (fr_sub np)
theorem er_rev {k : Nat} {p1 p3 : Pos} (he : EV X g E e fe) : ER X g E (.Subscript e (.Slice none none (some (.UnaryOp .USub (.Constant (.int 1) k p1) p2)) p3) pos) (bnd fe fun d => lft ((lstOf d).map fun xs => .own (.lst xs.reverse))) := by
  refine PE_imp (pe_revL he) fun σ H Q hq => ?_
  obtain ⟨ok, ρ, w, h⟩ := hq
  refine ⟨ok, ρ, w, (Rs.bnd (RA := relD X.K) h).mono fun v H1 hq => ?_⟩
  obtain ⟨ok1, ρ1, d, w1, s1, r1, h1⟩ := hq
  unfold lft at h1
  cases el : lstOf d with
  | none => rw [el] at h1; exact h1.elim
  | some xs =>
    rw [el] at h1
    obtain ⟨q, vs, rfl, hq, rv⟩ := Rep.lstOf r1 el
    exact ⟨q, vs, rfl, hq, fun p np => h1 _ _ (sub1 ok1 p) (w1.newO np) (Sx.newO np) (own_new w1 np ⟨_, upd_same, rv.rev.fr (fr_sub np)⟩)⟩
/-! ### repr -/
mutual
theorem Rep.sh {K : PySem.W.Frag} {ok : Addr → Prop} {H : Hp} : ∀ {v : V} {d : D} {p : PyData}, Rep K ok H v d → toPy d = some p → Sh K true H v p
  | _, _, _, .non, h => by cases h; exact .non
  | _, _, _, .bl b, h => by cases h; exact .bl b
  | _, _, _, .int i, h => by cases h; exact .int i
  | _, _, _, .str x, h => by cases h; exact .str x
  | _, _, _, .lst h1 _ r, h => by
    obtain ⟨ps, e, rfl⟩ := map_some (show (toPys _).map PyData.list = some _ from h)
    exact .lst (.inl (.inl h1)) (fun z => by cases z) (Reps.sh r e)
  | _, _, _, .lstF h1 r, h => by
    obtain ⟨ps, e, rfl⟩ := map_some (show (toPys _).map PyData.list = some _ from h)
    exact .lst h1.sq (fun z => by cases z) (Reps.sh r e)
  | _, _, _, .tup h1 r, h => by
    obtain ⟨ps, e, rfl⟩ := map_some (show (toPys _).map PyData.tuple = some _ from h)
    exact .tup (.inl (.inl h1)) (Reps.sh r e)
  | _, _, _, .tupF h1 r, h => by
    obtain ⟨ps, e, rfl⟩ := map_some (show (toPys _).map PyData.tuple = some _ from h)
    exact .tup h1.sq (Reps.sh r e)
  | _, _, _, .dic _ _, h => by cases h
  | _, _, _, .dct _ _, h => by cases h
  | _, _, _, .obj _ _, h => by cases h
  | _, _, _, .exn _ _, h => by cases h
  | _, _, _, .opq _, h => by cases h
  | _, _, _, .typ _, h => by cases h
theorem Reps.sh {K : PySem.W.Frag} {ok : Addr → Prop} {H : Hp} : ∀ {vs : List V} {ds : List D} {ps : List PyData}, Reps K ok H vs ds → toPys ds = some ps → ShAll K true H vs ps
  | _, _, _, .nil, h => by cases h; exact .nil
  | _, _, _, .cons (d := d) (ds := ds) r t, h => by
    unfold toPys at h
    cases e1 : toPy d with
    | none => rw [e1] at h; cases h
    | some p =>
      cases e2 : toPys ds with
      | none => rw [e1, e2] at h; cases h
      | some ps => rw [e1, e2] at h; cases h; exact .cons (Rep.sh r e1) (Reps.sh t e2)
end
/-- the text that is shown -/
def showP (p : PyData) : Option D := if p.showable = true ∧ p.shown.length ≤ sizeLine ∧ p.depth ≤ 60 then some (.str p.shown) else none
/-- no dict in it; or the empty dict -/
def shD : D → Option D
  | .dic [] [] => showP (.dict [])
  | d => (toPy d).bind showP
/-- repr of the empty dict, locked or not -/
theorem repr_dict0 (hg : X.A.guards = some []) (hu : X.A.units + 64 < cLine) : CallR X (.builtin "repr") (fun xs H Q => ∃ a, xs = [.ref a] ∧ Rd H a (.dK []) ∧ (PyData.dict []).showable = true ∧ (PyData.dict []).shown.length ≤ sizeLine ∧ Q (.str (PyData.dict []).shown) H) := by
  intro pins s σ H xs us Q I rv ⟨a, ex, hd, hs, hz, hq⟩
  subst ex
  obtain ⟨u, rfl, z⟩ := vals1 rv
  cases z
  obtain ⟨_, hne, vs, kv, o, es, ep, g1, g2, g3, _, g5, _⟩ := (show ObjOk X.prog X.w H s.heap a (.dK []) from Rd.ok hd I.hok)
  obtain ⟨v1, v2⟩ := pairs_vals kv g5
  have rd : Reads s.heap (.ref a) (.dict []) ((a :: []) ++ []) := Reads.dict (kvs := []) g1 g2.1 g3 (by cases h : es.toList.map (·.key) with
    | nil => exact .nil
    | cons x xs => rw [h] at v1; cases v1) (by cases h : es.toList.map (·.val) with
    | nil => exact .nil
    | cons x xs => rw [h] at v2; cases v2)
  refine repr_of_reads' rd hs (fun _ hm => ?_) hg (by show _ + _ < _; have : (PyData.dict []).depth ≤ 60 := by decide +kernel
                                                      omega) (fun _ _ e => e) (fun h2 u tk hk => ⟨.str _, H, I.kept hk, ⟨_, rfl⟩, hq⟩) hz
  rcases List.mem_cons.mp hm with y | y
  · rw [← y] at hne
    simp at hne
  · cases y
def rReprA (K : PySem.W.Frag) : List V → Hp → VK → Prop := fun xs H Q => rRepr K xs H Q ∨ ∃ a, xs = [.ref a] ∧ Rd H a (.dK []) ∧ (PyData.dict []).showable = true ∧ (PyData.dict []).shown.length ≤ sizeLine ∧ Q (.str (PyData.dict []).shown) H
theorem call_reprA (hg : X.A.guards = some []) (hu : X.A.units + 64 < cLine) : CallR X (.builtin "repr") (rReprA X.K) := CallR.or (call_reprD hg hu) (repr_dict0 hg hu)
theorem o1_repr : Op1 X.K (rReprA X.K) shD := by
  intro g ρ σ ok H v d z Q w r h q
  have key : ∀ p, toPy d = some p → showP p = some z → rRepr X.K [v] H Q := fun p e1 e2 => by
    unfold showP at e2
    split at e2
    · rename_i hz
      cases e2
      have sh : Sh X.K true H v p := by
        rcases r with r | ⟨q, rfl, o⟩
        · exact r.sh e1
        · cases d with
          | lst ds =>
            obtain ⟨vs, hv, rv⟩ := o
            obtain ⟨ps, e, rfl⟩ := map_some (show (toPys _).map PyData.list = some _ from e1)
            exact .lst (.inl (.inl hv)) (fun z => by cases z) (rv.sh e)
          | dic _ _ => cases e1
          | dct _ _ => cases e1
          | _ => exact o.elim
      exact ⟨true, v, p, rfl, sh, hz.1, hz.2.1, hz.2.2, q.at w (.str _)⟩
    · cases e2
  unfold shD at h
  split at h
  · unfold showP at h
    split at h
    · rename_i hz
      cases h
      obtain ⟨a, kvs, rfl, ha, hk, _⟩ := Pk.dic r
      cases kvs with
      | nil => exact .inr ⟨a, rfl, ha, hz.1, hz.2.1, q.at w (.str _)⟩
      | cons _ _ => cases hk
    · cases h
  · cases e : toPy d with
    | none => rw [e] at h; cases h
    | some p => rw [e] at h; exact .inl (key p e h)
/-! ### join, upper -/
def strsD : List D → Option (List Str)
  | [] => some []
  | .str x :: ds => (strsD ds).map (x :: ·)
  | _ :: _ => none
theorem Reps.strs {K : PySem.W.Frag} {ok : Addr → Prop} {H : Hp} : ∀ {vs : List V} {ds : List D} {ys : List Str}, Reps K ok H vs ds → strsD ds = some ys → vs = ys.map V.str
  | _, _, _, .nil, h => by cases h; rfl
  | _, _, _, .cons r t, h => by
    cases r with
    | str x =>
      obtain ⟨zs, e, rfl⟩ := map_some (show (strsD _).map (x :: ·) = some _ from h)
      rw [Reps.strs t e]; rfl
    | _ => cases h
def joinD (t : Str) : List D → Option D
  | [d] => match seqD d with
    | some xs => match strsD xs with
      | some ys => if (ys.map (·.length)).sum + ys.length * t.length ≤ 16777216 then some (.str (Txt.join t ys)) else none
      | none => none
    | none => none
  | _ => none
theorem om_join : OpM X.K (fun x xs H Q => ∃ a p, ∃ ys : List Str, x = .str a ∧ xs = [.ref p] ∧ (SqL X.K H p (ys.map V.str) ∨ SqT X.K H p (ys.map V.str)) ∧
    (ys.map (·.length)).sum + ys.length * a.length ≤ 16777216 ∧ Q (.str (Txt.join a ys)) H) joinD := by
  intro g ρ σ ok H t vs ds z Q w r h q
  unfold joinD at h
  split at h
  · rename_i d
    cases e1 : seqD d with
    | none => rw [e1] at h; cases h
    | some xs =>
      rw [e1] at h
      dsimp only at h
      cases e2 : strsD xs with
      | none => rw [e2] at h; cases h
      | some ys =>
        rw [e2] at h
        dsimp only at h
        split at h
        · rename_i hz
          cases h
          cases r with
          | cons r1 rr =>
            cases rr
            obtain ⟨a, vs, rfl, hs, rv⟩ := Pk.seq (.inl r1) e1
            have ev := rv.strs e2
            subst ev
            exact ⟨t, a, ys, rfl, rfl, hs, hz, q.at w (.str _)⟩
        · cases h
  · cases h
def upD (t : Str) : List D → Option D
  | [] => if t.length ≤ 5592405 then some (.str (Txt.upper t)) else none
  | _ => none
theorem om_upper : OpM X.K (fun x xs H Q => ∃ a, x = .str a ∧ xs = [] ∧ a.length ≤ 5592405 ∧ Q (.str (Txt.upper a)) H) upD := by
  intro g ρ σ ok H t vs ds z Q w r h q
  cases r with
  | nil =>
    have h : (if t.length ≤ 5592405 then some (D.str (Txt.upper t)) else none) = some z := h
    split at h
    · cases h; exact ⟨t, rfl, rfl, by assumption, q.at w (.str _)⟩
    · cases h
  | cons _ _ => cases h
end
end Pu
/-! Dicts: walked, listed, made of pairs, written. -/
namespace Pu
open PySem PySem.Spec PyProof.Rows L2 Kv
section
variable {K : PySem.W.Frag} {g : Gx} {ok : Addr → Prop} {ρ : En} {σ : L2.St} {H : Hp} {d : Addr} {u : HO} {od : Obj}
theorem fr_lock (h : H d = some u) (iu : isDct u = true) : Fr ok H ok (upd H d (.frz od u)) := by
  refine ⟨fun a o ha _ => ?_, fun _ _ _ k => k, fun a ha => ?_⟩
  · by_cases z : a = d
    · subst z
      rw [h] at ha
      cases ha
      exact .inr ⟨iu, od, upd_same⟩
    · exact .inl (by rw [upd_ne z]; exact ha)
  · by_cases z : a = d
    · rw [z, upd_same] at ha; cases ha
    · rw [upd_ne z] at ha; exact ha
theorem Wf.lock (w : Wf K g ok ρ σ H) (h : H d = some u) (iu : isDct u = true) (k : ok d) : Wf K g ok ρ σ (upd H d (.frz od u)) := by
  refine w.step (fr_lock h iu) (fun a ha => w.fc a ((fr_lock (ok := ok) (od := od) h iu).all a ha)) fun i e q hi hq => ?_
  obtain ⟨q', e', _, nk, _⟩ := w.own i e hi
  rw [hq] at e'
  cases e'
  exact ⟨upd_ne fun z => nk (by rw [z]; exact k), nk⟩
theorem Sx.lock (h : H d = some u) (iu : isDct u = true) (k : ok d) : Sx σ ρ ok H ρ ok (upd H d (.frz od u)) := by
  refine ⟨fr_lock h iu, fun a o ha _ => ?_, fun _ z => z, fun _ _ _ k => .inl k⟩
  by_cases z : a = d
  · subst z
    rw [h] at ha
    cases ha
    exact .inr ⟨k, iu, od, upd_same⟩
  · exact .inl (by rw [upd_ne z]; exact ha)
end
section
variable {X : Cx} {g : Gx} {E : Wx} {a b c e o tg : Expr} {es : List Expr} {x : Str} {p p2 pos apos cpos : Pos} {fa fb fo fe : P D} {fr : P (List D)}
/-- the value is a dict that is locked, if it is not yet -/
def tLk (te : TE) : TE := fun σ H Q => te σ H fun x H1 => ∃ d u, x = .ref d ∧ ((H1 d = some u ∧ isDct u = true ∧ ∀ od, Q x (upd H1 d (.frz od u))) ∨ Q x H1)
theorem pe_lk {te : TE} (h : PE X e te) : PE X e (tLk te) := by
  refine ⟨fun pins s σ H Q I hw => thn (h.run pins s σ H _ I hw) fun v s1 ⟨x, H1, I1, r, d, u, ex, q⟩ => ?_⟩
  rcases q with ⟨hd, iu, q⟩ | q
  · obtain ⟨od, J⟩ := I1.lock hd (by cases u <;> first | exact True.intro | cases iu)
    exact ⟨x, _, J, r, q od⟩
  · exact ⟨x, H1, I1, r, q⟩
def keyD : Key → D
  | .inl i => .int i
  | .inr x => .str x
theorem rep_key {K : PySem.W.Frag} {ok : Addr → Prop} {H : Hp} (k : Key) : Rep K ok H (kV k) (keyD k) := by
  cases k with
  | inl i => exact .int i
  | inr x => exact .str x
theorem reps_keys {K : PySem.W.Frag} {ok : Addr → Prop} {H : Hp} : ∀ ks : List Key, Reps K ok H (ks.map kV) (ks.map keyD)
  | [] => .nil
  | k :: ks => .cons (rep_key k) (reps_keys ks)
/-- the keys, in order -/
def keysD : D → Option (List D)
  | .dic ks _ => some (ks.map keyD)
  | .dct ks _ => some (ks.map fun k => .tup (k.map keyD))
  | _ => none
theorem wk_keys {K : PySem.W.Frag} {L : List Nat} {σ : L2.St} {ρ : En} {ok : Addr → Prop} {H : Hp} {d : Addr} {o : Obj} {kvs : List (Key × V)} (h : H d = some (.frz o (.dK kvs))) : WkOk K g L σ ρ (Itk d o kvs) ((kvs.map (·.1)).map keyD) ok H := by
  intro ok2 ρ2 σ2 H2 w2 f2 k2
  have h2 := f2.rd h (fun z => z)
  have ln : ((kvs.map (·.1)).map keyD).length = kvs.length := by rw [List.length_map, List.length_map]
  refine ⟨fun i hi => ⟨h2, by rw [ln] at hi; exact hi⟩, ⟨h2, by rw [ln]; exact Nat.le_refl _⟩, fun i d x H3 hd yl => ?_⟩
  obtain ⟨rfl, k, v, hk, rfl⟩ := yl
  refine ⟨.inl rfl, ?_⟩
  rw [List.getElem?_map, List.getElem?_map, hk] at hd
  cases hd
  exact rep_key k
theorem wk_keysT {K : PySem.W.Frag} {L : List Nat} {σ : L2.St} {ρ : En} {ok : Addr → Prop} {H : Hp} {d : Addr} {o : Obj} {kvs : List (List Key × V)} (h : H d = some (.frz o (.dT kvs))) : WkOk K g L σ ρ (Itkt d o kvs) ((kvs.map (·.1)).map fun k => .tup (k.map keyD)) ok H := by
  intro ok2 ρ2 σ2 H2 w2 f2 k2
  have h2 := f2.rd h (fun z => z)
  have ln : ((kvs.map (·.1)).map fun k => D.tup (k.map keyD)).length = kvs.length := by rw [List.length_map, List.length_map]
  refine ⟨fun i hi => ⟨h2, by rw [ln] at hi; exact hi⟩, ⟨h2, by rw [ln]; exact Nat.le_refl _⟩, fun i d x H3 hd yl => ?_⟩
  obtain ⟨rfl, k, v, q, hk, rfl, hq⟩ := yl
  refine ⟨.inl rfl, ?_⟩
  rw [List.getElem?_map, List.getElem?_map, hk] at hd
  cases hd
  exact .tup hq (reps_keys k)
theorem ei_keys (ha : EV X g E a fa) : EI X g E [] tg a (bnd fa fun d => lft (keysD d)) := by
  refine PI_imp (pi_keys (pe_lk ha)) fun σ H R hq => ?_
  obtain ⟨ok, ρ, w, h⟩ := hq
  refine ⟨ok, ρ, w, ?_⟩
  cases e : fa ρ with
  | none => rw [bnd_none e] at h; exact h
  | some y =>
    cases y with
    | er c ns ds ρ' => rw [bnd_er e] at h; exact h
    | ok d ρ' =>
      rw [bnd_ok e] at h
      intro v H' ok' w' s' r'
      have r' : Rep X.K ok' H' v d := r'
      cases r' with
      | dic hd rs =>
        rename_i q kvs ds
        rcases hd with ⟨hd, kq⟩ | ⟨od, hd⟩
        · exact ⟨q, _, rfl, .inl ⟨hd, rfl, fun od => ⟨q, od, rfl, .inl ⟨kvs, upd_same, h _ _ ok' (w'.lock hd rfl kq) (s'.trans (Sx.lock hd rfl kq)) (wk_keys upd_same)⟩⟩⟩⟩
        · exact ⟨q, .dK kvs, rfl, .inr ⟨q, od, rfl, .inl ⟨kvs, hd, h _ _ ok' w' s' (wk_keys hd)⟩⟩⟩
      | dct hd rs =>
        rename_i q kvs ds
        rcases hd with ⟨hd, kq⟩ | ⟨od, hd⟩
        · exact ⟨q, _, rfl, .inl ⟨hd, rfl, fun od => ⟨q, od, rfl, .inr ⟨kvs, upd_same, h _ _ ok' (w'.lock hd rfl kq) (s'.trans (Sx.lock hd rfl kq)) (wk_keysT upd_same)⟩⟩⟩⟩
        · exact ⟨q, .dT kvs, rfl, .inr ⟨q, od, rfl, .inr ⟨kvs, hd, h _ _ ok' w' s' (wk_keysT hd)⟩⟩⟩
      | _ => exact h.elim
/-! ### d.values(), d.items() -/
def valsD : D → Option (List D)
  | .dic _ vs => some vs
  | _ => none
def itemsD : D → Option (List D)
  | .dic ks vs => some ((ks.zip vs).map fun p => .tup [keyD p.1, p.2])
  | _ => none
theorem wk_vals {K : PySem.W.Frag} {L : List Nat} {σ : L2.St} {ρ : En} {ok : Addr → Prop} {H : Hp} {d : Addr} {o : Obj} {kvs : List (Key × V)} {ds : List D} (h : H d = some (.frz o (.dK kvs))) (r : Reps K ok H (kvs.map (·.2)) ds) : WkOk K g L σ ρ (Itd d o kvs) ds ok H := by
  intro ok2 ρ2 σ2 H2 w2 f2 k2
  have h2 := f2.rd h (fun z => z)
  have ln : ds.length = kvs.length := by rw [← r.length, List.length_map]
  refine ⟨fun i hi => ⟨h2, by rw [ln] at hi; exact hi⟩, ⟨h2, by rw [ln]; exact Nat.le_refl _⟩, fun i d x H3 hd yl => ?_⟩
  obtain ⟨rfl, k, hk⟩ := yl
  obtain ⟨v, hv, rv⟩ := (r.fr f2).getD hd
  rw [List.getElem?_map, hk] at hv
  cases hv
  exact ⟨.inl rfl, rv⟩
theorem wk_items {K : PySem.W.Frag} {L : List Nat} {σ : L2.St} {ρ : En} {ok : Addr → Prop} {H : Hp} {d : Addr} {o : Obj} {kvs : List (Key × V)} {ds : List D} (h : H d = some (.frz o (.dK kvs))) (r : Reps K ok H (kvs.map (·.2)) ds) : WkOk K g L σ ρ (Iti d o kvs) (((kvs.map (·.1)).zip ds).map fun p => .tup [keyD p.1, p.2]) ok H := by
  intro ok2 ρ2 σ2 H2 w2 f2 k2
  have h2 := f2.rd h (fun z => z)
  have ld : ds.length = kvs.length := by rw [← r.length, List.length_map]
  have ln : (((kvs.map (·.1)).zip ds).map fun p => D.tup [keyD p.1, p.2]).length = kvs.length := by rw [List.length_map, List.length_zip, List.length_map, ld, Nat.min_self]
  refine ⟨fun i hi => ⟨h2, by rw [ln] at hi; exact hi⟩, ⟨h2, by rw [ln]; exact Nat.le_refl _⟩, fun i d x H3 hd yl => ?_⟩
  obtain ⟨T, k, v, hk, rfl, nT, rfl⟩ := yl
  refine ⟨.inr ⟨T, _, nT, rfl⟩, ?_⟩
  rw [List.getElem?_map] at hd
  cases ez : ((kvs.map (·.1)).zip ds)[i]? with
  | none => rw [ez] at hd; cases hd
  | some pr =>
    rw [ez] at hd
    cases hd
    obtain ⟨e1, e2⟩ := List.getElem?_zip_eq_some.mp ez
    rw [List.getElem?_map, hk] at e1
    have e1 : k = pr.1 := Option.some.inj e1
    obtain ⟨v', hv, rv⟩ := (r.fr f2).getD e2
    rw [List.getElem?_map, hk] at hv
    have hv : v = v' := Option.some.inj hv
    subst hv
    show Rep K ok2 _ _ (.tup [keyD pr.1, pr.2])
    rw [← e1]
    exact .tup upd_same (.cons (rep_key k) (.cons (rv.fr (fr_new nT)) .nil))
theorem ei_lkd {J : Addr → Obj → List (Key × V) → It} {kf : D → Option (List D)} {σ : L2.St} {H : Hp} {R : It → Hp → Prop} (hJ : ∀ (σ : L2.St) (ρ : En) (ok : Addr → Prop) (H : Hp) (d : Addr) (o : Obj) (kvs : List (Key × V)) (ds ys : List D), H d = some (.frz o (.dK kvs)) → Reps X.K ok H (kvs.map (·.2)) ds → kf (.dic (kvs.map (·.1)) ds) = some ys → WkOk X.K g [] σ ρ (J d o kvs) ys ok H)
    (h0 : ∀ d ys, kf d = some ys → ∃ ks vs, d = .dic ks vs)
    (hq : tI X.K g E [] (bnd fa fun d => lft (kf d)) σ H R) : tLk (tX X.K g E (relD X.K) fa) σ H (fun x H1 => ∃ d o kvs, x = .ref d ∧ H1 d = some (.frz o (.dK kvs)) ∧ R (J d o kvs) H1) := by
  obtain ⟨ok, ρ, w, h⟩ := hq
  refine ⟨ok, ρ, w, ?_⟩
  cases e : fa ρ with
  | none => rw [bnd_none e] at h; exact h
  | some y =>
    cases y with
    | er c ns ds ρ' => rw [bnd_er e] at h; exact h
    | ok d ρ' =>
      rw [bnd_ok e] at h
      intro v H' ok' w' s' r'
      have r' : Rep X.K ok' H' v d := r'
      unfold lft at h
      cases ek : kf d with
      | none => rw [ek] at h; exact h.elim
      | some ys =>
        rw [ek] at h
        obtain ⟨ks, vs, rfl⟩ := h0 d ys ek
        cases r' with
        | dic hd rs =>
          rename_i q kvs
          rcases hd with ⟨hd, kq⟩ | ⟨od, hd⟩
          · exact ⟨q, _, rfl, .inl ⟨hd, rfl, fun od => ⟨q, od, kvs, rfl, upd_same, h _ _ ok' (w'.lock hd rfl kq) (s'.trans (Sx.lock hd rfl kq)) (hJ _ _ _ _ _ _ _ _ _ upd_same (rs.fr (fr_lock hd rfl)) ek)⟩⟩⟩
          · exact ⟨q, .dK kvs, rfl, .inr ⟨q, od, kvs, rfl, hd, h _ _ ok' w' s' (hJ _ _ _ _ _ _ _ _ _ hd rs ek)⟩⟩
theorem ei_values (ha : EV X g E a fa) (hbase : attributeBase a "values" X.env (eval a X.env) = eval a X.env := by rfl) (hline : (apos.endLine == cpos.line) = true := by rfl) : EI X g E [] tg (.Call (.Attribute a "values" apos) [] [] cpos) (bnd fa fun d => lft (valsD d)) :=
  PI_imp (pi_values (pe_lk ha) hbase hline) fun σ H R hq => ei_lkd (J := Itd) (kf := valsD) (fun σ ρ ok H d o kvs ds ys h r e => by cases e; exact wk_vals h r) (fun d ys e => by cases d <;> first | exact ⟨_, _, rfl⟩ | cases e) hq
theorem ei_items {elts : List Expr} {kk : Nat} {tpos : Pos} (ha : EV X g E a fa) (hbase : attributeBase a "items" X.env (eval a X.env) = eval a X.env := by rfl) (hline : (apos.endLine == cpos.line) = true := by rfl) : EI X g E [] (.Tuple elts kk tpos) (.Call (.Attribute a "items" apos) [] [] cpos) (bnd fa fun d => lft (itemsD d)) :=
  PI_imp (pi_items (pe_lk ha) hbase hline) fun σ H R hq => ei_lkd (J := Iti) (kf := itemsD) (fun σ ρ ok H d o kvs ds ys h r e => by cases e; exact wk_items h r) (fun d ys e => by cases d <;> first | exact ⟨_, _, rfl⟩ | cases e) hq
/-! ### dict(pairs) -/
/-- as the heap's own put -/
def putD {κ : Type} [DecidableEq κ] (ks : List κ) (vs : List D) (k : κ) (v : D) : List κ × List D :=
  if (ks.any fun a => decide (a = k)) = true then (ks, (ks.zip vs).map fun p => if p.1 = k then v else p.2) else (ks ++ [k], vs ++ [v])
theorem putD_ok {κ : Type} [DecidableEq κ] {K : PySem.W.Frag} {ok : Addr → Prop} {H : Hp} {kvs : List (κ × V)} {ds : List D} {k : κ} {v : V} {d : D} (r : Reps K ok H (kvs.map (·.2)) ds) (rv : Rep K ok H v d) :
    (putK kvs k v).map (·.1) = (putD (kvs.map (·.1)) ds k d).1 ∧ Reps K ok H ((putK kvs k v).map (·.2)) (putD (kvs.map (·.1)) ds k d).2 := by
  have he : ((kvs.map (·.1)).any fun a => decide (a = k)) = (kvs.any fun kv => decide (kv.1 = k)) := by rw [List.any_map]; rfl
  by_cases hk : (kvs.any fun kv => decide (kv.1 = k)) = true
  · have e1 : putK kvs k v = kvs.map (fun kv => if kv.1 = k then (kv.1, v) else kv) := if_pos hk
    have e2 : putD (kvs.map (·.1)) ds k d = (kvs.map (·.1), ((kvs.map (·.1)).zip ds).map fun p => if p.1 = k then d else p.2) := if_pos (he.trans hk)
    rw [e1, e2]
    clear e1 e2 hk he
    constructor
    · rw [List.map_map]
      refine List.map_congr_left fun p _ => ?_
      show (if p.1 = k then (p.1, v) else p).1 = p.1
      split <;> rfl
    · induction kvs generalizing ds with
      | nil => cases r; exact .nil
      | cons p ps ih =>
        cases r with
        | cons r1 rr =>
          refine .cons ?_ (ih rr)
          show Rep K ok H (if p.1 = k then (p.1, v) else p).2 (if p.1 = k then d else _)
          split
          · exact rv
          · exact r1
  · have e1 : putK kvs k v = kvs ++ [(k, v)] := if_neg hk
    have e2 : putD (kvs.map (·.1)) ds k d = (kvs.map (·.1) ++ [k], ds ++ [d]) := if_neg fun z => hk (he.symm.trans z)
    rw [e1, e2, List.map_append, List.map_append]
    exact ⟨rfl, r.app (.cons rv .nil)⟩
def mergeD (ks : List Key) (vs : List D) : List (Key × D) → List Key × List D
  | [] => (ks, vs)
  | (k, v) :: ps => let q := putD ks vs k v; mergeD q.1 q.2 ps
theorem mergeD_ok {K : PySem.W.Frag} {ok : Addr → Prop} {H : Hp} : ∀ {more : List (Key × V)} {md : List (Key × D)} {kvs : List (Key × V)} {ds : List D}, Reps K ok H (kvs.map (·.2)) ds → more.map (·.1) = md.map (·.1) → Reps K ok H (more.map (·.2)) (md.map (·.2)) →
    (mergeK kvs more).map (·.1) = (mergeD (kvs.map (·.1)) ds md).1 ∧ Reps K ok H ((mergeK kvs more).map (·.2)) (mergeD (kvs.map (·.1)) ds md).2
  | [], [], kvs, ds, r, _, _ => ⟨rfl, r⟩
  | [], _ :: _, _, _, _, h, _ => by cases h
  | _ :: _, [], _, _, _, h, _ => by cases h
  | (k, v) :: more, (k', d) :: md, kvs, ds, r, hk, hm => by
    have hk1 : k = k' := (List.cons.inj hk).1
    have hk2 : more.map (·.1) = md.map (·.1) := (List.cons.inj hk).2
    subst hk1
    cases hm with
    | cons r1 rr =>
      obtain ⟨p1, p2⟩ := putD_ok (k := k) r r1
      have ih := mergeD_ok (more := more) (md := md) p2 hk2 rr
      rw [p1] at ih
      exact ih
def pairD : D → Option (Key × D)
  | .tup [k, v] => (asKey k).map fun k' => (k', v)
  | _ => none
def pairsOf : List D → Option (List (Key × D))
  | [] => some []
  | d :: ds => match pairD d, pairsOf ds with
    | some p, some ps => some (p :: ps)
    | _, _ => none
theorem pairs_rep {K : PySem.W.Frag} {ok : Addr → Prop} {H : Hp} : ∀ {vs : List V} {ds : List D} {ps : List (Key × D)}, Reps K ok H vs ds → pairsOf ds = some ps →
    ∃ (as : List Addr) (kvs : List (Key × V)), vs = as.map V.ref ∧ Paired (fun p kv => SqT K H p [kV kv.1, kv.2]) as kvs ∧ kvs.map (·.1) = ps.map (·.1) ∧ Reps K ok H (kvs.map (·.2)) (ps.map (·.2))
  | _, _, _, .nil, h => by cases h; exact ⟨[], [], rfl, .nil, rfl, .nil⟩
  | _, _, _, .cons (d := d) (ds := ds) r t, h => by
    unfold pairsOf at h
    cases e1 : pairD d with
    | none => rw [e1] at h; cases h
    | some p =>
      cases e2 : pairsOf ds with
      | none => rw [e1, e2] at h; cases h
      | some ps =>
        rw [e1, e2] at h
        cases h
        obtain ⟨as, kvs, rfl, pr, hk, hv⟩ := pairs_rep t e2
        unfold pairD at e1
        split at e1
        · rename_i kd vd
          obtain ⟨k', ek, rfl⟩ := map_some e1
          cases r with
          | tup ht rs =>
            cases rs with
            | cons r1 rr =>
              cases rr with
              | cons r2 r3 =>
                cases r3
                rename_i q v1 v2
                have ev := r1.key ek
                subst ev
                exact ⟨q :: as, (k', v2) :: kvs, rfl, .cons (.inl (.inl ht)) pr, by rw [List.map_cons, List.map_cons, hk], .cons r2 hv⟩
        · cases e1
def dictP (d : D) : Option R := (lstOf d).bind fun xs => (pairsOf xs).map fun ps => let q := mergeD [] [] ps; .own (.dic q.1 q.2)
theorem er_dict (hc : X.calm = true) (hg : Gl X "dict") (hm : X.mg "dict" = none) (ha : EV X g E a fa) (hs : starEach [a] X.env = [(false, eval a X.env)] := by rfl) : ER X g E (.Call (.Name "dict" p) [a] [] pos) (bnd fa fun x => lft (dictP x)) := by
  refine PE_imp (pe_callTy (x := "dict") (call_dictP hc) hg hm (by decide +kernel) (pa_cons ha pa_nil hs) (by decide) (by decide) hs rfl) fun σ H Q hq => ?_
  obtain ⟨ok, ρ, w, h⟩ := hq
  refine ⟨ok, ρ, w, (Rs.bnd (RA := relD X.K) h).mono fun v1 H1 hq => ?_⟩
  obtain ⟨ok1, ρ1, d, w1, f1, r1, h1⟩ := hq
  unfold lft dictP at h1
  cases es : lstOf d with
  | none => rw [es] at h1; exact h1.elim
  | some xs =>
    rw [es] at h1
    obtain ⟨q, vs, rfl, sq, rp⟩ := Rep.lstOf r1 es
    cases ep : pairsOf xs with
    | none => simp only [Option.bind_some, ep, Option.map_none] at h1; exact h1.elim
    | some ps =>
      simp only [Option.bind_some, ep, Option.map_some] at h1
      obtain ⟨as, kvs, rfl, pr, hk, hv⟩ := pairs_rep rp ep
      refine ⟨q, as, kvs, rfl, sq, pr, fun l nl => ?_⟩
      obtain ⟨m1, m2⟩ := mergeD_ok (K := X.K) (ok := ok1) (H := H1) (kvs := []) (ds := []) .nil hk hv
      exact h1 _ _ (sub1 ok1 l) (w1.newO nl) (Sx.newO nl) (own_new w1 nl ⟨_, upd_same, m1, m2.fr (fr_sub nl)⟩)
/-! ### list(d) -/
theorem list_dK (hc : X.calm = true) : CallR X (.type "list") (fun xs H Q => ∃ d kvs, xs = [V.ref d] ∧ Rd H d (.dK kvs) ∧ ∀ q, H q = none → Q (.ref q) (upd H q (.lst ((kvs.map (·.1)).map kV)))) := by
  intro pins s σ H xs us Q I rv ⟨d, kvs, ex, hd, hq⟩
  subst ex
  obtain ⟨w1, rfl, z⟩ := vals1 rv
  cases z
  obtain ⟨hz, hne, ws, hkv, hD⟩ := dk_rd I.hok hd
  obtain ⟨ep, hA⟩ := hD.dictAt
  have hlen : ws.length = kvs.length := (Paired.length hkv).symm
  refine PySem.W.kdl_call (PySem.W.kdl_dict (knd := mixKind X.prog X.w) (kvs := ws) (ep := ep) hne) (I.ok.hd hc) hA (hlen ▸ hz) fun h' tk its c hkp hnew hits => ?_
  have hv : Vals ((kvs.map (·.1)).map kV) its.toList := by
    refine vals_of_at (by simp only [List.length_map, Array.length_toList]; have := hits.1; omega) fun j y u h1 h2 => ?_
    rw [Array.getElem?_toList] at h2
    obtain ⟨k, y', e1, e2⟩ := hits.2 j u h2
    rw [KV.keys hkv, List.getElem?_map, List.getElem?_map, e1] at h1
    cases h1
    exact keyIs_rel e2
  have hok : ObjOk X.prog X.w (upd H s.heap.objs.size (.lst ((kvs.map (·.1)).map kV))) h' s.heap.objs.size (.lst ((kvs.map (·.1)).map kV)) := ⟨by rw [List.length_map, List.length_map]; exact hz, its.toList, c, hv, by rw [Array.toArray_toList]; exact hnew⟩
  exact ⟨.ref s.heap.objs.size, _, I.laid hkp (Nat.le_refl _) hok, rfl, hq _ (I.hok.fresh (Nat.le_refl _))⟩
/-- list(x): of a list, a tuple, a dict -/
def listP (d : D) : Option R := match d with
  | .dic ks _ => some (.own (.lst (ks.map keyD)))
  | .dct ks _ => some (.own (.lst (ks.map fun k => .tup (k.map keyD))))
  | d => (seqD d).map fun xs => .own (.lst xs)
theorem keysT_reps {K : PySem.W.Frag} {ok : Addr → Prop} {H : Hp} : ∀ {kvs : List (List Key × V)} {bs : List Addr}, IsKeys H kvs bs → Reps K ok H (bs.map V.ref) ((kvs.map (·.1)).map fun k => .tup (k.map keyD))
  | [], _, h => by cases h; exact .nil
  | p :: ps, _, h => by
    cases h with
    | cons h1 t => exact .cons (.tup h1 (reps_keys p.1)) (keysT_reps t)
def rListA (K : PySem.W.Frag) : List V → Hp → VK → Prop := fun xs H Q => (∃ p ys, xs = [V.ref p] ∧ (SqL K H p ys ∨ SqT K H p ys) ∧ ∀ l, H l = none → Q (.ref l) (upd H l (.lst ys))) ∨
  (∃ d kvs, xs = [V.ref d] ∧ Rd H d (.dK kvs) ∧ ∀ q, H q = none → Q (.ref q) (upd H q (.lst ((kvs.map (·.1)).map kV)))) ∨ (∃ d kvs, xs = [V.ref d] ∧ Rd H d (.dT kvs) ∧ ∀ p bs, H p = none → IsKeys H kvs bs → Q (.ref p) (upd H p (.lst (bs.map V.ref))))
theorem call_listA (hc : X.calm = true) : CallR X (.type "list") (rListA X.K) := CallR.or call_list_of (CallR.or (list_dK hc) (call_list_dT hc))
theorem er_listA (hc : X.calm = true) (hg : Gl X "list") (hm : X.mg "list" = none) (ha : EP X g E a fa) (hs : starEach [a] X.env = [(false, eval a X.env)] := by rfl) : ER X g E (.Call (.Name "list" p) [a] [] pos) (bnd fa fun x => lft (listP x)) := by
  refine PE_imp (pe_callTy (x := "list") (call_listA hc) hg hm (by decide +kernel) (pa_cons ha pa_nil hs) (by decide) (by decide) hs rfl) fun σ H Q hq => ?_
  obtain ⟨ok, ρ, w, h⟩ := hq
  refine ⟨ok, ρ, w, (Rs.bnd (RA := relP X.K) h).mono fun v1 H1 hq => ?_⟩
  obtain ⟨ok1, ρ1, d, w1, f1, r1, h1⟩ := hq
  unfold lft at h1
  have r1 : Pk X.K ok1 H1 v1 d := r1
  show rListA X.K [v1] H1 Q
  have seq : ∀ xs, seqD d = some xs → listP d = some (.own (.lst xs)) → rListA X.K [v1] H1 Q := fun xs es el => by
    rw [el] at h1
    obtain ⟨q, vs, rfl, sq, rp⟩ := r1.seq es
    refine .inl ⟨q, vs, rfl, sq, fun l nl => ?_⟩
    exact h1 _ _ (sub1 ok1 l) (w1.newO nl) (Sx.newO nl) (own_new w1 nl ⟨vs, upd_same, rp.fr (fr_sub nl)⟩)
  cases d with
  | lst xs => exact seq xs rfl rfl
  | tup xs => exact seq xs rfl rfl
  | flst xs => exact seq xs rfl rfl
  | ftup xs => exact seq xs rfl rfl
  | dic ks vs =>
    obtain ⟨q, kvs, rfl, hd, rfl, rp⟩ := r1.dic
    exact .inr (.inl ⟨q, kvs, rfl, hd, fun l nl => h1 _ _ (sub1 ok1 l) (w1.newO nl) (Sx.newO nl) (own_new w1 nl ⟨_, upd_same, reps_keys _⟩)⟩)
  | dct ks vs =>
    obtain ⟨q, kvs, rfl, hd, rfl, rp⟩ := r1.dct
    exact .inr (.inr ⟨q, kvs, rfl, hd, fun l bs nl hb => h1 _ _ (sub1 ok1 l) (w1.newO nl) (Sx.newO nl) (own_new w1 nl ⟨_, upd_same, (keysT_reps hb).fr (fr_sub nl)⟩)⟩)
  | _ => exact h1.elim
end
end Pu
/-! Defs with a star parameter; stars in displays and calls; dicts that are written. -/
namespace Pu
open PySem PySem.Spec PyProof.Rows L2 Kv
/-- what a call by values alone keeps -/
def FnV (P' : Program) (w : World) (K : PySem.W.Frag) (mg : Str → Option Value) (base : Heap) (k : Nat) (f : Addr) (sp : Sp) : Prop :=
  ∀ (A : Around) (outer : List Env) (s : Shared) (H : Hp) (us : List Value) (vs : List V) (Q : VK) (E : XK), A.guards = some [] → Room k A → Env0 P' w K mg base A outer s H → Vals vs us → sp vs H Q E →
    codeAny (model P' w) A (.call (.ref f) ⟨us, []⟩) (CR (L2.CX P' w) outer P' w H s Q E) s
section
variable {P' : Program} {w : World} {K : PySem.W.Frag} {mg : Str → Option Value} {base : Heap} {k : Nat} {f : Addr} {name qual : Str} {params : Arguments} {body : List Stmt} {scope : Scope} {dV kV doc pm cdv ct oc : Value} {an od : Option Addr}
  {osl : Array (Option Value)} {N ps : List Str} {sp : Sp}
/-- the rest is a new tuple -/
def spStar (n : Nat) (sp : Sp) : Sp := fun vs H Q E => n ≤ vs.length ∧ vs.length ≤ sizeLine ∧ ∀ t, H t = none → sp (vs.take n ++ [V.ref t]) (upd H t (.tup (vs.drop n))) Q E
theorem fn_starV {pv : Str} (lk : K.lookup f = some ⟨oc, od, .func (PySem.W.fnOf name qual params body scope dV kV doc pm an cdv ct), osl⟩) (hcd : PySem.W.codeIn K cdv qual = true) (S : FnScope N (ps ++ [pv]) scope)
    (hbind : ∀ us rest : List Value, us.length = ps.length → bindArgs (PySem.W.fnOf name qual params body scope dV kV doc pm an cdv ct) ⟨us ++ rest, []⟩ = (newTuple rest >>= fun t => pure (ps.zip us ++ [(pv, t)])))
    (hbody : ∀ (A : Around) (outer : List Env) (s : Shared) (H : Hp) (vs : List V) (Q : VK) (E : XK), A.guards = some [] → Room k (A.deeper (envOfC qual scope s.heap.objs.size f cdv)) → sp vs H Q E →
      ∃ t, PSs (cxOf (L2.CX P' w) P' w K mg base N qual scope f cdv A outer s H E) body t ∧ t { nx := fun _ H' => Q .non H', rt := Q } (start N vs) H) :
    FnV P' w K mg base (k + 1) f (spStar ps.length sp) := by
  intro A outer s H us vs Q E hg hr e0 rv ⟨hn, hz, hsp⟩
  have rv' : Vals (vs.take ps.length ++ vs.drop ps.length) us := by rw [List.take_append_drop]; exact rv
  obtain ⟨ua, ub, rfl, ra, rb⟩ := StX.vals_split rv'
  have la : ua.length = ps.length := by rw [← ra.length, List.length_take]; omega
  have lv : (vs.take ps.length).length = ps.length := by rw [List.length_take]; omega
  have lb : (vs.drop ps.length).length ≤ sizeLine := by rw [List.length_drop]; omega
  have hp : H s.heap.objs.size = none := e0.hok.fresh (Nat.le_refl _)
  let T : Obj := { cls := .type "tuple", data := .seq ub.toArray }
  refine StX.run_bnd lk hcd S hr e0 (G := fun xs H2 => ∃ t, H t = none ∧ xs = vs.take ps.length ++ [V.ref t] ∧ H2 = upd H t (.tup (vs.drop ps.length))) (fun A' Ex Q' h => ?_) fun s2 H2 xs g2 hr2 => ?_
  · rw [hbind ua ub la]
    refine wpAny_bind (wpAny_newTuple (wpAny_pure ?_) (by rw [← rb.length]; exact lb))
    have okT : ObjOk P' w (upd H s.heap.objs.size (.tup (vs.drop ps.length))) (s.heap.push T) s.heap.objs.size (.tup (vs.drop ps.length)) := ⟨lb, ub, rb, ⟨T, Heap.get?_push_size _ rfl, rfl, _, rfl⟩⟩
    have hun := StX.un_laid (fs := frs outer) (s := s) (o := T) (u := .tup (vs.drop ps.length)) hp
    have := h _ _ (vs.take ps.length ++ [V.ref s.heap.objs.size]) (ua ++ [Value.ref s.heap.objs.size]) (StX.env0_laid e0 okT) hun rfl (fun er s' => StX.cxUp outer s H _ _ E er s' hun (fun _ _ q => Heap.get?_push_of_some _ q) rfl) (ra.append (.cons rfl .nil)) (by rw [List.length_append, List.length_append, lv]; rfl) ⟨_, hp, rfl, rfl⟩
    rw [List.zip_append la.symm] at this
    exact this
  · obtain ⟨t, ht, rfl, rfl⟩ := g2
    exact hbody A outer s2 _ _ Q E hg hr2 (hsp t ht)
end
/-- a star def in the tree world: the last of the values is the tuple of the rest -/
def starF (n : Nat) (F : P R) : List D → P R := fun ds => if n ≤ ds.length ∧ ds.length ≤ sizeLine then app F (ds.take n ++ [.tup (ds.drop n)]) else fun _ => none
/-- a method with a star parameter -/
structure CalMS (P' : Program) (w : World) (K : PySem.W.Frag) (mg : Str → Option Value) (base : Heap) (C : Addr) (k n : Nat) (m : Str) (F : P R) : Prop where
  ex : ∃ f, FnV P' w K mg base k f (spStar n (spP K (n + 1) F)) ∧ Meth K C m f ∧ Cls K C
structure DefS (K : PySem.W.Frag) (C : Addr) (x qual : Str) (st : Stmt) (ps : List Str) (pv : Str) : Prop where
  ex : ∃ f fd, Fun K x qual st f fd ∧ Meth K C x f ∧ Cls K C ∧ ∀ us rest : List Value, us.length = ps.length → bindArgs fd ⟨us ++ rest, []⟩ = (newTuple rest >>= fun t => pure (ps.zip us ++ [(pv, t)]))
section
variable {P' : Program} {w : World} {K : PySem.W.Frag} {mg : Str → Option Value} {base : Heap}
/-- the body of a def keeps its promise -/
theorem body_ok {qual : Str} {sc : Scope} {f : Addr} {cdv : Value} {N : List Str} {n : Nat} {B : List Nat} {body : S} {bs : List Stmt} {A : Around} {fr : List Env} {s : Shared} {H : Hp} {vs : List V} {Q : VK} {E : XK} (hpl : n ≤ N.length)
    (hb : ESs (cxOf (L2.CX P' w) P' w K mg base N qual sc f cdv A fr s H E) ⟨H, B⟩ (fun _ => E) bs body) (hsp : spP K n (fnP N.length B body) vs H Q E) :
    ∃ t, PSs (cxOf (L2.CX P' w) P' w K mg base N qual sc f cdv A fr s H E) bs t ∧ t { nx := fun _ H' => Q .non H', rt := Q } (start N vs) H := by
  refine ⟨_, hb, ?_⟩
  obtain ⟨ok, as, hn, w0, h⟩ := hsp
  unfold fnP at h
  split at h
  · rename_i hl
    obtain ⟨w1, hw⟩ := fn_enter (N := N) hn hpl w0 hl
    refine ⟨ok, _, w1, ?_⟩
    cases eb : body (as ++ List.replicate (N.length - as.length) .un) with
    | none => rw [eb] at h; exact h
    | some fl =>
      rw [eb] at h
      cases fl with
      | nx ρ' =>
        intro σ' H' ok' w' s'
        obtain ⟨w2, s2, _⟩ := fn_leave hn w0 hl hw w' s'
        exact h .non H' ok' w2 s2 .non
      | rt r ρ' =>
        intro v σ' H' ok' w' s' r'
        obtain ⟨w2, s2, hs⟩ := fn_leave hn w0 hl hw w' s'
        refine h v H' ok' w2 s2 ?_
        cases r with
        | val d => exact r'
        | own d =>
          obtain ⟨q, e, o, nk, n0, np⟩ := r'
          refine ⟨q, e, o, nk, n0, fun j e' hj z => ?_⟩
          obtain ⟨h1, h2⟩ := hs j e' hj
          exact np j e' h1 (by rw [h2]; exact z)
      | bk ρ' => exact h.elim
      | ct ρ' => exact h.elim
      | er c ns ds ρ' =>
        intro dx fs σ' H' ok' w' s' e1 e2 e3
        obtain ⟨w2, s2, _⟩ := fn_leave hn w0 hl hw w' s'
        exact h dx fs H' ok' w2 s2 e1 e2 e3
  · exact h.elim
theorem calMS_mk {C : Addr} {x qual pv : Str} {st : Stmt} {N ps : List Str} {k n : Nat} {B : List Nat} {body : S} (d : DefS K C x qual st ps pv) (S : FnScope N (ps ++ [pv]) (defScope st)) (hn : ps.length = n)
    (hb : ∀ (f : Addr) (cdv : Value) (A : Around) (fr : List Env) (s : Shared) (H : Hp) (E : XK), A.guards = some [] → Room k (A.deeper (envOfC qual (defScope st) s.heap.objs.size f cdv)) →
      ESs (cxOf (L2.CX P' w) P' w K mg base N qual (defScope st) f cdv A fr s H E) ⟨H, B⟩ (fun _ => E) (defBody st) body) :
    CalMS P' w K mg base C (k + 1) n x (fnP N.length B body) := by
  obtain ⟨f, fd, F, m, c, hbind⟩ := d.ex
  obtain ⟨oc, od, kV, doc, pm, an, cdv, ct, osl, rfl, lk, hcd⟩ := F.ex
  subst hn
  have hpl : ps.length + 1 ≤ N.length := by have := congrArg List.length S.pre; rw [List.length_take, List.length_append, List.length_singleton] at this; omega
  exact ⟨f, fn_starV lk hcd S hbind fun A fr s H vs Q E hg hr hsp => body_ok hpl (hb f cdv A fr s H E hg hr) hsp, m, c⟩
end
section
variable {X : Cx} {g : Gx} {E : Wx} {k n : Nat} {C : Addr} {x m : Str} {F : P R} {p pos apos : Pos} {e o : Expr} {es : List Expr} {fe : P D} {fr : P (List D)}
theorem star_ok {ok : Addr → Prop} {ρ : En} {σ : L2.St} {H : Hp} {vs : List V} {ds : List D} {Q : VK} (w : Wf X.K g ok ρ σ H) (r : Reps X.K ok H vs ds) (h : Rs X.K g E (relR X.K) σ ρ ok H (starF n F ds ρ) Q) : spStar n (spP X.K (n + 1) F) vs H Q (E σ) := by
  unfold starF at h
  split at h
  · rename_i hn
    refine ⟨by rw [r.length]; exact hn.1, by rw [r.length]; exact hn.2, fun t nt => ?_⟩
    have rr : Reps X.K ok (upd H t (.tup (vs.drop n))) (vs.take n ++ [V.ref t]) (ds.take n ++ [.tup (ds.drop n)]) := ((r.fr (fr_new nt)).take n).app (.cons (.tup upd_same ((r.fr (fr_new nt)).drop n)) .nil)
    refine app_ok (w.new nt) rr ?_ (h.shift (Sx.new nt) monoR)
    rw [List.length_append, List.length_take, r.length]
    show min n ds.length + 1 = n + 1
    omega
  · exact h.elim
theorem er_methS {fo : P D} {pl : Sem Bool} (c : CalMS X.prog X.w X.K X.mg X.base C k n m F) (ho : EV X g E o fo) (hgd : X.A.guards = some []) (hr : Room k X.A) (hx : ∀ σ, PassesAt (L2.CX X.prog X.w) X σ (E σ)) (ha : EA X g E (e :: es) fr)
    (hst : starEach (e :: es) X.env = (false, eval e X.env) :: starEach es X.env := by rfl) (hpl : (backTo pos (starEach es X.env)).any (·.1) = false := by rfl)
    (ht : eval (.Call (.Attribute o m apos) (e :: es) [] pos) X.env = (do
      let ov ← eval o X.env
      standAt apos.atName
      let (f, first) ← holding [ov] (getMethod ov m pl)
      callWith pos f first (backTo pos (starEach (e :: es) X.env)) (backToKw pos (keywordEach [] X.env))) := by rfl) :
    ER X g E (.Call (.Attribute o m apos) (e :: es) [] pos) (bnd fo fun d => if isObj C m d = true then bnd fr fun ds => starF n F (d :: ds) else fun _ => none) := by
  obtain ⟨f, G, hm, cl⟩ := c.ex
  refine ⟨fun pins s σ H Q I hq => ?_⟩
  obtain ⟨ok, ρ, w, h⟩ := hq
  refine PySem.W.methodCall_KW (pl := pl) (thn (ho.run pins s σ H (fun v H1 => ∃ ok1 ρ1 d, Wf X.K g ok1 ρ1 σ H1 ∧ Sx σ ρ ok H ρ1 ok1 H1 ∧ Rep X.K ok1 H1 v d ∧ Rs X.K g E (relR X.K) σ ρ1 ok1 H1 ((if isObj C m d = true then bnd fr fun ds => starF n F (d :: ds) else fun _ => none) ρ1) Q) I ⟨ok, ρ, w, Rs.bnd (RA := relD X.K) h⟩) fun u s1 ⟨v, H1, I1, rx, ok1, ρ1, d, w1, f1, r1, h1⟩ => ?_) ht
  by_cases hi : isObj C m d = true
  · rw [if_pos hi] at h1
    obtain ⟨a, dx, fs, rfl, ea, el⟩ := isObj_rep r1 hi
    obtain rfl : u = Value.ref a := rx
    refine getmeth_ok I1 ea cl hm el ?_
    refine PySem.W.callWith_K (first := [.ref a]) (h₀ := X.base) I.ok.mod.kin hm.kp (thn (ha.run pos pins s1 σ H1 (fun vs H2 => ∃ ok2 ρ2 ds, Wf X.K g ok2 ρ2 σ H2 ∧ Sx σ ρ1 ok1 H1 ρ2 ok2 H2 ∧ Reps X.K ok2 H2 vs ds ∧ Rs X.K g E (relR X.K) σ ρ2 ok2 H2 (starF n F (d :: ds) ρ2) Q) I1 ⟨ok1, ρ1, w1, Rs.bnd (RA := relA X.K) h1⟩) fun us s2 ⟨vs, H2, I2, rv, ok2, ρ2, ds, w2, f2, r2, h2⟩ => ⟨I2.kIn, ?_⟩) hst hpl
    have q2 := star_ok w2 (.cons (Rep.fr f2.fr r1) r2) h2
    refine wpAny_call (codeAny_mono (G X.A X.stack s2 H2 (.ref a :: us) (.ref a :: vs) Q (E σ) hgd hr I2.env0 (.cons rfl rv) q2) fun r s' hq => ?_)
    cases r with
    | error er => exact hx σ pins H2 s2 er s' I2 hq
    | ok fl =>
      cases fl with
      | ret u => exact I2.after hq
      | next => exact False.elim hq
      | brk => exact False.elim hq
      | cont => exact False.elim hq
  · rw [if_neg hi] at h1
    exact h1.elim
/-! ### *e in a display -/
def starA (fe : P D) (fr : P (List D)) : P (List D) := bnd fe fun d => match seqD d with
  | some xs => bnd fr fun ys => prt (xs ++ ys)
  | none => fun _ => none
theorem ea_star (he : EV X g E e fe) (hr : EA X g E es fr) (hs : starEach (.Starred e p :: es) X.env = (true, eval e X.env) :: starEach es X.env := by rfl) : EA X g E (.Starred e p :: es) (starA fe fr) := by
  refine PA_imp (StX.pa_star he hr hs) fun σ H Q hq => ?_
  obtain ⟨ok, ρ, w, h⟩ := hq
  refine ⟨ok, ρ, w, (Rs.bnd (RA := relD X.K) h).mono fun v H1 hq => ?_⟩
  obtain ⟨ok1, ρ1, d, w1, f1, r1, h1⟩ := hq
  have r1 : Rep X.K ok1 H1 v d := r1
  cases es : seqD d with
  | none => simp only [es] at h1; exact h1.elim
  | some xs =>
    simp only [es] at h1
    obtain ⟨a, vs, rfl, hv, rv⟩ := Pk.seq (.inl r1) es
    refine ⟨a, vs, rfl, hv.symm, ok1, ρ1, w1, (Rs.bnd (RA := relA X.K) h1).mono fun ws H2 hq => ?_⟩
    obtain ⟨ok2, ρ2, ys, w2, f2, r2, h2⟩ := hq
    exact h2 _ H2 ok2 w2 Sx.refl ((rv.fr f2.fr).app r2)
/-! ### dicts that are written -/
theorem er_dict0 : ER X g E (.Dict [] [] pos) (prt (.own (.dic [] []))) := by
  refine PE_imp pe_dnewK fun σ H Q hq => ?_
  obtain ⟨ok, ρ, w, h⟩ := hq
  exact fun p np => h _ _ (sub1 ok p) (w.newO np) (Sx.newO np) (own_new w np ⟨[], upd_same, rfl, .nil⟩)
theorem er_dictT0 : ER X g E (.Dict [] [] pos) (prt (.own (.dct [] []))) := by
  refine PE_imp pe_dnewT fun σ H Q hq => ?_
  obtain ⟨ok, ρ, w, h⟩ := hq
  exact fun p np => h _ _ (sub1 ok p) (w.newO np) (Sx.newO np) (own_new w np ⟨[], upd_same, rfl, .nil⟩)
/-- x[k] = d, x a dict of one's own -/
def stPut (i : Nat) (k d : D) : S := fun ρ => match ρ[i]? with
  | some (.own (.dic ks vs)) => match asKey k with
    | some k' => if ks.length < sizeLine then (let q := putD ks vs k' d; some (.nx (ρ.set i (.own (.dic q.1 q.2))))) else none
    | none => none
  | some (.own (.dct ks vs)) => match k with
    | .tup xs => match asKeys xs with
      | some k' => if ks.length < sizeLine then (let q := putD ks vs k' d; some (.nx (ρ.set i (.own (.dct q.1 q.2))))) else none
      | none => none
    | _ => none
  | _ => none
theorem fr_own {K : PySem.W.Frag} {ok : Addr → Prop} {H : Hp} {q : Addr} {o o' : HO} (h : H q = some o) (v : Vol o) (nk : ¬ ok q) : Fr ok H ok (upd H q o') :=
  .of (fun a x ha hk => by
    have : a ≠ q := fun z => by
      subst z
      rw [h] at ha
      cases ha
      exact nk (hk v)
    rw [upd_ne this]; exact ha) (fun _ _ _ k => k) (fun a ha => by
    by_cases z : a = q
    · rw [z, upd_same] at ha; cases ha
    · rw [upd_ne z] at ha; exact ha)
theorem eg_put {i : Nat} {y : Str} {ie : Expr} {fi : P D} (hu : X.A.units + 1 < cLine) (hN : X.N[i]? = some y) (hv : Vis X.env.scope y) (hi : EV X g E ie fi) (hd : (y == ("__debug__" : Str)) = false := by decide) (hcd : (y == ("__classdict__" : Str)) = false := by decide)
    (ha : ∀ v, assign (.Subscript (.Name y p) ie pos) X.env v = (do
      let ov ← holding [v] (eval (.Name y p) X.env)
      let iv ← holding [v, ov] (eval ie X.env)
      standAt pos
      holding [v, ov, iv] (setItem ov iv v)
      release [v, ov, iv] []) := by intro _; rfl) : EG X g E (.Subscript (.Name y p) ie pos) (fun d => gdO i (sb fi fun j => stPut i j d)) := by
  refine PG_imp (pg_sub (pe_var hN hv hd hcd) hi (set_dict hu) ha) fun v σ H Q hq => ?_
  obtain ⟨ok, ρ, d, w, r, h⟩ := hq
  unfold gdO at h
  cases e0 : ρ[i]? with
  | none => simp only [e0] at h; exact h.elim
  | some s0 =>
    cases s0 with
    | un => simp only [e0] at h; exact h.elim
    | val _ => simp only [e0] at h; exact h.elim
    | own d00 =>
      simp only [e0] at h
      obtain ⟨u, hq, _⟩ := w.own i d00 e0
      refine ⟨.ref u, hq, ok, ρ, w, (Ss.sb (RA := relD X.K) h).mono fun jv H2 hz => ?_⟩
      obtain ⟨ok1, ρ1, j, w1, s1, r1, h1⟩ := hz
      have r1 : Rep X.K ok1 H2 jv j := r1
      have rd : Rep X.K ok1 H2 v d := r.fr s1.fr
      unfold stPut at h1
      cases e1 : ρ1[i]? with
      | none => simp only [e1] at h1; exact h1.elim
      | some sl =>
        cases sl with
        | un => simp only [e1] at h1; exact h1.elim
        | val _ => simp only [e1] at h1; exact h1.elim
        | own d0 =>
          obtain ⟨q, eq, o, nk, _⟩ := w1.own i _ e1
          rw [hq] at eq
          cases eq
          cases d0 with
          | dic ks vs =>
            simp only [e1] at h1
            cases ek : asKey j with
            | none => simp only [ek] at h1; exact h1.elim
            | some k' =>
              simp only [ek] at h1
              split at h1
              · rename_i hz
                obtain ⟨kvs, hkv, rfl, rv⟩ := id o
                have ej := r1.key ek
                subst ej
                obtain ⟨p1, p2⟩ := putD_ok (k := k') rv rd
                have f : Fr ok1 H2 ok1 (upd H2 u (.dK (putK kvs k' v))) := fr_own (K := X.K) hkv trivial nk
                have ow : OwnAt X.K ok1 (upd H2 u (.dK (putK kvs k' v))) u (.dic (putD (kvs.map (·.1)) vs k' d).1 (putD (kvs.map (·.1)) vs k' d).2) := ⟨_, upd_same, p1, p2.fr f⟩
                exact ⟨u, _, rfl, DPut.k hkv (by rw [List.length_map] at hz; exact hz), h1 σ _ ok1 (w1.write e1 hq ow).1 (Sx.write w1 e1 hq ow).y⟩
              · exact h1.elim
          | dct ks vs =>
            simp only [e1] at h1
            cases r1 with
            | tup ht rs =>
              rename_i b us xs
              dsimp only at h1
              cases ek : asKeys xs with
              | none => simp only [ek] at h1; exact h1.elim
              | some k' =>
                simp only [ek] at h1
                split at h1
                · rename_i hz
                  obtain ⟨kvs, hkv, rfl, rv⟩ := id o
                  have ej := rs.keys ek
                  subst ej
                  obtain ⟨p1, p2⟩ := putD_ok (k := k') rv rd
                  have f : Fr ok1 H2 ok1 (upd H2 u (.dT (putK kvs k' v))) := fr_own (K := X.K) hkv trivial nk
                  have ow : OwnAt X.K ok1 (upd H2 u (.dT (putK kvs k' v))) u (.dct (putD (kvs.map (·.1)) vs k' d).1 (putD (kvs.map (·.1)) vs k' d).2) := ⟨_, upd_same, p1, p2.fr f⟩
                  exact ⟨u, _, rfl, .inr ⟨kvs, k', b, hkv, rfl, ht, by rw [List.length_map] at hz; exact hz, rfl⟩, h1 σ _ ok1 (w1.write e1 hq ow).1 (Sx.write w1 e1 hq ow).y⟩
                · exact h1.elim
            | _ => exact h1.elim
          | _ => simp only [e1] at h1; exact h1.elim
end
end Pu
/-! The classes above a class by a walk backwards; all points. -/
namespace Kv
open PySem PySem.Spec PyProof.Rows L2
theorem keys_app (t1 t2 : Tab) : tabKeys (t1 ++ t2) = tabKeys t1 ++ tabKeys t2 := List.map_append
theorem look_left {t1 t2 : Tab} {x : Str} (h : x ∈ tabKeys t1) : look (t1 ++ t2) x = look t1 x := by
  induction t1 with
  | nil => cases h
  | cons p r ih =>
    obtain ⟨y, as⟩ := p
    unfold look at ih ⊢
    rw [List.cons_append, List.lookup_cons, List.lookup_cons]
    by_cases e : x = y
    · subst e
      rw [beq_self_eq_true]
    · rw [beq_eq_false_iff_ne.mpr e]
      refine ih ?_
      rcases List.mem_cons.mp h with z | z
      · exact absurd z e
      · exact z
theorem look_right {t1 t2 : Tab} {x : Str} (h : x ∉ tabKeys t1) : look (t1 ++ t2) x = look t2 x := by
  induction t1 with
  | nil => rfl
  | cons p r ih =>
    obtain ⟨y, as⟩ := p
    unfold look at ih ⊢
    have e : x ≠ y := fun z => h (z ▸ List.mem_cons_self ..)
    rw [List.cons_append, List.lookup_cons, beq_eq_false_iff_ne.mpr e]
    exact ih fun z => h (List.mem_cons_of_mem _ z)
/-- the classes above x -/
def Anc (rows : List Row2) (x : Str) : List Str := look (ancTab rows) x
theorem anc_more {rows : List Row2} {i : Nat} {x : Str} (h : x ∈ fsts (rows.take i)) : ∀ j, i ≤ j → Anc (rows.take j) x = Anc (rows.take i) x := by
  intro j hj
  induction j with
  | zero =>
    have : i = 0 := by omega
    rw [this]
  | succ j ih =>
    by_cases e : i = j + 1
    · rw [e]
    · have ih2 := ih (by omega)
      cases hr : rows[j]? with
      | none =>
        have : rows.take (j + 1) = rows.take j := by
          rw [List.take_add_one, hr]
          exact List.append_nil _
        rw [this]
        exact ih2
      | some r =>
        unfold Anc at ih2 ⊢
        rw [ancTab_take hr, look_left]
        · exact ih2
        · rw [ancTab_keys]
          have hs : rows.take i <+: rows.take j := by
            have : rows.take i = (rows.take j).take i := by
              rw [List.take_take, Nat.min_eq_left (by omega)]
            rw [this]
            exact List.take_prefix _ _
          unfold fsts at h ⊢
          exact (hs.map _).subset h
theorem anc_row {rows : List Row2} (v : Valid rows) {i : Nat} {n : Str} {ss : List Str} (h : rows[i]? = some (n, ss)) (x : Str) :
    x ∈ Anc rows n ↔ x = n ∨ ∃ s ∈ ss, x ∈ Anc rows s := by
  have il : i < rows.length := (List.getElem?_eq_some_iff.mp h).1
  obtain ⟨v1, v2, v3, v4⟩ := v i n ss h
  have hn : n ∈ fsts (rows.take (i + 1)) := by
    rw [List.take_add_one, h]
    unfold fsts
    rw [List.map_append]
    exact List.mem_append_right _ (List.mem_singleton.mpr rfl)
  have e1 : Anc rows n = ancOf (ancTab (rows.take i)) n ss := by
    have := anc_more hn rows.length (by omega)
    rw [List.take_length] at this
    rw [this]
    unfold Anc
    rw [ancTab_take h, look_right (by rw [ancTab_keys]; exact v2)]
    unfold look
    rw [List.lookup_cons, beq_self_eq_true]
    rfl
  rw [e1, mem_ancOf]
  constructor
  · rintro (z | ⟨s, hs, z⟩)
    · exact Or.inl z
    · refine Or.inr ⟨s, hs, ?_⟩
      have := anc_more (v4 s hs) rows.length (by omega)
      rw [List.take_length] at this
      rw [this]
      exact z
  · rintro (z | ⟨s, hs, z⟩)
    · exact Or.inl z
    · refine Or.inr ⟨s, hs, ?_⟩
      have := anc_more (v4 s hs) rows.length (by omega)
      rw [List.take_length] at this
      rw [this] at z
      exact z
theorem mem_row {rows : List Row2} {x : Str} (h : x ∈ fsts rows) : ∃ (i : Nat) (ss : List Str), rows[i]? = some (x, ss) := by
  obtain ⟨r, hr, rfl⟩ := List.mem_map.mp h
  obtain ⟨i, hi, e⟩ := List.getElem_of_mem hr
  exact ⟨i, r.2, by rw [List.getElem?_eq_getElem hi, e]⟩
theorem row_at {rows : List Row2} {j : Nat} {s : Str} (h : s ∈ fsts (rows.take j)) : ∃ (i : Nat) (ss : List Str), i < j ∧ rows[i]? = some (s, ss) := by
  obtain ⟨i, ss, e⟩ := mem_row h
  have hi := (List.getElem?_eq_some_iff.mp e).1
  rw [List.length_take] at hi
  rw [List.getElem?_take_of_lt (by omega)] at e
  exact ⟨i, ss, by omega, e⟩
theorem anc_trans {rows : List Row2} (v : Valid rows) {x y : Str} : ∀ (i : Nat) {n : Str} {ss : List Str}, rows[i]? = some (n, ss) → x ∈ Anc rows n → y ∈ Anc rows x → y ∈ Anc rows n := by
  intro i
  induction i using Nat.strongRecOn with
  | ind i ih =>
    intro n ss h hx hy
    rcases (anc_row v h x).mp hx with rfl | ⟨s, hs, hxs⟩
    · exact hy
    · obtain ⟨_, _, _, v4⟩ := v i n ss h
      obtain ⟨j, ts, hj, e⟩ := row_at (v4 s hs)
      exact (anc_row v h y).mpr (Or.inr ⟨s, hs, ih j hj e hxs hy⟩)
/-- one row of the walk backwards -/
def stepUp (found : List Str) (r : Row2) : List Str := if r.1 ∈ found then found ++ r.2.filter (fun e => decide (e ∉ found)) else found
def aboveAt (rows : List Row2) (label : Str) (j : Nat) : List Str := (rows.reverse.take j).foldl stepUp [label]
def aboveL (rows : List Row2) (label : Str) : List Str := aboveAt rows label rows.length
theorem above_next {rows : List Row2} {label : Str} {j : Nat} {r : Row2} (h : rows.reverse[j]? = some r) : aboveAt rows label (j + 1) = stepUp (aboveAt rows label j) r := by
  unfold aboveAt
  rw [List.take_add_one, h, List.foldl_append]
  rfl
theorem above_inv {rows : List Row2} (v : Valid rows) {label : Str} (hl : label ∈ fsts rows) : ∀ j, j ≤ rows.length →
    (∀ y ∈ aboveAt rows label j, y ∈ Anc rows label) ∧
    (∀ y ∈ Anc rows label, y ∈ aboveAt rows label j ∨ ∃ i z ss, i < rows.length - j ∧ rows[i]? = some (z, ss) ∧ z ∈ aboveAt rows label j ∧ y ∈ Anc rows z)
  | 0, _ => by
    obtain ⟨i, ss, e⟩ := mem_row hl
    have hi := (List.getElem?_eq_some_iff.mp e).1
    refine ⟨fun y hy => ?_, fun y hy => Or.inr ⟨i, label, ss, by omega, e, List.mem_singleton.mpr rfl, hy⟩⟩
    have : y = label := List.mem_singleton.mp hy
    rw [this]
    exact (anc_row v e label).mpr (Or.inl rfl)
  | j + 1, hj => by
    obtain ⟨S, C⟩ := above_inv v hl j (by omega)
    have hi : rows.length - 1 - j < rows.length := by omega
    have er : rows.reverse[j]? = some rows[rows.length - 1 - j] := by
      rw [List.getElem?_reverse (by omega), List.getElem?_eq_getElem hi]
    have eri : rows[rows.length - 1 - j]? = some rows[rows.length - 1 - j] := List.getElem?_eq_getElem hi
    generalize rows[rows.length - 1 - j] = r at er eri
    obtain ⟨n, ss⟩ := r
    obtain ⟨i0, s0, e0⟩ := mem_row hl
    rw [above_next er]
    have sub : ∀ y ∈ aboveAt rows label j, y ∈ stepUp (aboveAt rows label j) (n, ss) := by
      intro y hy
      unfold stepUp
      split
      · exact List.mem_append_left _ hy
      · exact hy
    refine ⟨fun y hy => ?_, fun y hy => ?_⟩
    · unfold stepUp at hy
      split at hy
      · rename_i hn
        rcases List.mem_append.mp hy with z | z
        · exact S y z
        · have hs : y ∈ ss := (List.mem_filter.mp z).1
          have hyn : y ∈ Anc rows n := by
            obtain ⟨_, _, _, v4⟩ := v _ n ss eri
            obtain ⟨k, ts, _, ek⟩ := row_at (v4 y hs)
            exact (anc_row v eri y).mpr (Or.inr ⟨y, hs, (anc_row v ek y).mpr (Or.inl rfl)⟩)
          exact anc_trans v i0 e0 (S n hn) hyn
      · exact S y hy
    · rcases C y hy with z | ⟨i, z, ts, h1, h2, h3, h4⟩
      · exact Or.inl (sub y z)
      · by_cases hlt : i < rows.length - (j + 1)
        · exact Or.inr ⟨i, z, ts, hlt, h2, sub z h3, h4⟩
        · have ei : i = rows.length - 1 - j := by omega
          subst ei
          rw [eri] at h2
          cases h2
          rcases (anc_row v eri y).mp h4 with rfl | ⟨s, hs, hys⟩
          · exact Or.inl (sub _ h3)
          · obtain ⟨_, _, _, v4⟩ := v _ n ss eri
            obtain ⟨k, us, hk, ek⟩ := row_at (v4 s hs)
            refine Or.inr ⟨k, s, us, by omega, ek, ?_, hys⟩
            unfold stepUp
            rw [if_pos h3]
            by_cases hin : s ∈ aboveAt rows label j
            · exact List.mem_append_left _ hin
            · exact List.mem_append_right _ (List.mem_filter.mpr ⟨hs, decide_eq_true hin⟩)
theorem mem_above {rows : List Row2} (v : Valid rows) {label : Str} (hl : label ∈ fsts rows) (y : Str) : y ∈ aboveL rows label ↔ y ∈ Anc rows label := by
  obtain ⟨S, C⟩ := above_inv v hl rows.length (Nat.le_refl _)
  constructor
  · exact S y
  · intro hy
    rcases C y hy with z | ⟨i, z, ss, h1, _⟩
    · exact z
    · omega
theorem above_len {rows : List Row2} {label : Str} (B : Nat) (hB : ∀ r ∈ rows, r.2.length ≤ B) : ∀ j, (aboveAt rows label j).length ≤ 1 + B * j
  | 0 => Nat.le_refl _
  | j + 1 => by
    have ih := above_len (label := label) B hB j
    cases h : rows.reverse[j]? with
    | none =>
      have : aboveAt rows label (j + 1) = aboveAt rows label j := by
        unfold aboveAt
        rw [List.take_add_one, h]
        show ((rows.reverse.take j) ++ []).foldl _ _ = _
        rw [List.append_nil]
      rw [this, Nat.mul_add]
      omega
    | some r =>
      rw [above_next h]
      have hr := hB r (List.mem_reverse.mp (List.mem_of_getElem? h))
      unfold stepUp
      split
      · rw [List.length_append, Nat.mul_add]
        have := List.length_filter_le (fun e => decide (e ∉ aboveAt rows label j)) r.2
        omega
      · rw [Nat.mul_add]
        omega
theorem above_head (rows : List Row2) (label : Str) : ∀ j, ∃ r, aboveAt rows label j = label :: r
  | 0 => ⟨[], rfl⟩
  | j + 1 => by
    obtain ⟨r, e⟩ := above_head rows label j
    cases h : rows.reverse[j]? with
    | none =>
      refine ⟨r, ?_⟩
      unfold aboveAt at e ⊢
      rw [List.take_add_one, h]
      show ((rows.reverse.take j) ++ []).foldl _ _ = _
      rw [List.append_nil]
      exact e
    | some q =>
      rw [above_next h, e]
      unfold stepUp
      split
      · exact ⟨_, rfl⟩
      · exact ⟨r, rfl⟩
/-! ### all points -/
def stepC (rows : List (List Str)) (names : List Str) : List (List Str) := rows.flatMap fun r => names.map fun n => r ++ [n]
def combos (choices : List (List Str)) : List (List Str) := choices.foldl stepC [[]]
theorem combos_snoc (cs : List (List Str)) (c : List Str) : combos (cs ++ [c]) = stepC (combos cs) c := by
  unfold combos
  rw [List.foldl_append]
  rfl
theorem combos_take {cs : List (List Str)} {i : Nat} {c : List Str} (h : cs[i]? = some c) : combos (cs.take (i + 1)) = stepC (combos (cs.take i)) c := by
  rw [List.take_add_one, h]
  exact combos_snoc ..
theorem foldC_len (k : Nat) : ∀ (cs : List (List Str)) (acc : List (List Str)), (∀ p ∈ acc, p.length = k) → ∀ p ∈ cs.foldl stepC acc, p.length = k + cs.length
  | [], _, h, p, hp => h p hp
  | c :: cs, acc, h, p, hp => by
    have := foldC_len (k + 1) cs (stepC acc c) (fun q hq => by
      obtain ⟨r, hr, hq2⟩ := List.mem_flatMap.mp hq
      obtain ⟨n, hn, rfl⟩ := List.mem_map.mp hq2
      rw [List.length_append, h r hr]
      rfl) p hp
    rw [this, List.length_cons]
    omega
theorem combos_len (cs : List (List Str)) : ∀ p ∈ combos cs, p.length = cs.length := fun p hp => by
  have := foldC_len 0 cs [[]] (fun p hp => by rw [List.mem_singleton.mp hp]; rfl) p hp
  omega
/-- what a point's classes are, place by place -/
theorem stepC_mem {rows : List (List Str)} {c : List Str} {p : List Str} : p ∈ stepC rows c ↔ ∃ r ∈ rows, ∃ n ∈ c, p = r ++ [n] := by
  unfold stepC
  rw [List.mem_flatMap]
  constructor
  · rintro ⟨r, hr, hp⟩
    obtain ⟨n, hn, rfl⟩ := List.mem_map.mp hp
    exact ⟨r, hr, n, hn, rfl⟩
  · rintro ⟨r, hr, n, hn, rfl⟩
    exact ⟨r, hr, List.mem_map.mpr ⟨n, hn, rfl⟩⟩
theorem foldC_all (q : Str → Prop) : ∀ (cs : List (List Str)) (acc : List (List Str)), (∀ p ∈ acc, ∀ x ∈ p, q x) → (∀ c ∈ cs, ∀ x ∈ c, q x) → ∀ p ∈ cs.foldl stepC acc, ∀ x ∈ p, q x
  | [], _, h, _, p, hp => h p hp
  | c :: cs, acc, h, hc, p, hp => by
    refine foldC_all q cs (stepC acc c) (fun r hr x hx => ?_) (fun d hd => hc d (List.mem_cons_of_mem _ hd)) p hp
    obtain ⟨r2, hr2, n, hn, rfl⟩ := stepC_mem.mp hr
    rcases List.mem_append.mp hx with z | z
    · exact h r2 hr2 x z
    · rw [List.mem_singleton.mp z]
      exact hc c (List.mem_cons_self ..) n hn
theorem combos_all (q : Str → Prop) {cs : List (List Str)} (hc : ∀ c ∈ cs, ∀ x ∈ c, q x) : ∀ p ∈ combos cs, ∀ x ∈ p, q x :=
  foldC_all q cs [[]] (fun p hp x hx => by rw [List.mem_singleton.mp hp] at hx; cases hx) hc
theorem stepC_length (rows : List (List Str)) (c : List Str) : (stepC rows c).length = rows.length * c.length := by
  unfold stepC
  induction rows with
  | nil => rw [List.flatMap_nil, List.length_nil, Nat.zero_mul]
  | cons r rs ih => rw [List.flatMap_cons, List.length_append, ih, List.length_map, List.length_cons, Nat.add_mul]; omega
/-- choosing among the filtered is filtering the chosen -/
def okZip (f : Str → Str → Bool) : List Str → List Str → Bool
  | [], _ => true
  | _, [] => true
  | a :: as, b :: bs => f a b && okZip f as bs
theorem okZip_snoc (f : Str → Str → Bool) (a b : Str) : ∀ (as bs : List Str), as.length = bs.length → okZip f (as ++ [a]) (bs ++ [b]) = (okZip f as bs && f a b)
  | [], [], _ => by simp [okZip]
  | x :: as, y :: bs, h => by
    have := okZip_snoc f a b as bs (by simpa using h)
    simp [okZip, this, Bool.and_assoc]
  | [], _ :: _, h => by simp at h
  | _ :: _, [], h => by simp at h
theorem step_filter (f : Str → Str → Bool) (names : List Str) (o : Str) (os : List Str) (rows : List (List Str)) (h : ∀ r ∈ rows, r.length = os.length) :
    (stepC rows names).filter (okZip f · (os ++ [o])) = stepC (rows.filter (okZip f · os)) (names.filter (f · o)) := by
  unfold stepC
  induction rows with
  | nil => rfl
  | cons r rs ih =>
    rw [List.flatMap_cons, List.filter_append, ih fun q hq => h q (List.mem_cons_of_mem _ hq)]
    have hr : r.length = os.length := h r (List.mem_cons_self ..)
    have e : (names.map fun n => r ++ [n]).filter (okZip f · (os ++ [o])) = if okZip f r os then (names.filter (f · o)).map fun n => r ++ [n] else [] := by
      clear ih
      induction names with
      | nil => simp
      | cons n ns ihn =>
        rw [List.map_cons, List.filter_cons, okZip_snoc f n o r os hr, ihn, List.filter_cons]
        cases okZip f r os <;> cases f n o <;> simp
    rw [e, List.filter_cons]
    cases okZip f r os
    · simp
    · simp
theorem combos_filter (f : Str → Str → Bool) (names : List Str) : ∀ (k : Nat) (pt : List Str), pt.length = k →
    combos (pt.map fun o => names.filter (f · o)) = (combos (List.replicate k names)).filter (okZip f · pt)
  | 0, pt, h => by
    cases pt with
    | nil => rfl
    | cons a b => simp at h
  | k + 1, pt, h => by
    have hne : pt ≠ [] := fun z => by rw [z] at h; cases h
    have e : pt = pt.dropLast ++ [pt.getLast hne] := (List.dropLast_concat_getLast hne).symm
    generalize pt.getLast hne = o at e
    have hl : pt.dropLast.length = k := by rw [List.length_dropLast]; omega
    generalize pt.dropLast = os at e hl
    subst e
    rw [List.map_append, List.map_cons, List.map_nil, combos_snoc, combos_filter f names k os hl, List.replicate_succ', combos_snoc, step_filter f names o os]
    intro r hr
    rw [combos_len _ r hr, List.length_replicate, hl]
end Kv
/-! Points in the heap; comprehensions with two loops. -/
namespace Kv
open PySem PySem.Spec PyProof.Rows L2
/-- the i-th of one belongs to the i-th of the other -/
theorem pair_get {α β : Type} {R : α → β → Prop} : ∀ {as : List α} {bs : List β} {i : Nat} {a : α}, Paired R as bs → as[i]? = some a → ∃ b, bs[i]? = some b ∧ R a b
  | _, _, _, _, .nil, e => by simp at e
  | _, _, 0, _, .cons h _, e => by
    simp at e
    subst e
    exact ⟨_, rfl, h⟩
  | _, _, i + 1, a, .cons _ t, e => by
    obtain ⟨b, h1, h2⟩ := pair_get (i := i) (a := a) t (by simpa using e)
    exact ⟨b, by simpa using h1, h2⟩
theorem pair_get2 {α β : Type} {R : α → β → Prop} : ∀ {as : List α} {bs : List β} {i : Nat} {b : β}, Paired R as bs → bs[i]? = some b → ∃ a, as[i]? = some a ∧ R a b
  | _, _, _, _, .nil, e => by simp at e
  | _, _, 0, _, .cons h _, e => by
    simp at e
    subst e
    exact ⟨_, rfl, h⟩
  | _, _, i + 1, b, .cons _ t, e => by
    obtain ⟨a, h1, h2⟩ := pair_get2 (i := i) (b := b) t (by simpa using e)
    exact ⟨a, by simpa using h1, h2⟩
theorem pair_snoc {α β : Type} {R : α → β → Prop} : ∀ {as : List α} {bs : List β} {a : α} {b : β}, Paired R as bs → R a b → Paired R (as ++ [a]) (bs ++ [b])
  | _, _, _, _, .nil, h => .cons h .nil
  | _, _, _, _, .cons p q, h => .cons p (pair_snoc q h)
theorem pair_app {α β : Type} {R : α → β → Prop} : ∀ {as cs : List α} {bs ds : List β}, Paired R as bs → Paired R cs ds → Paired R (as ++ cs) (bs ++ ds)
  | _, _, _, _, .nil, h => h
  | _, _, _, _, .cons p q, h => .cons p (pair_app q h)
/-- the tuple of these texts -/
def PtAt (H : Hp) (v : V) (p : List Str) : Prop := ∃ t, v = .ref t ∧ H t = some (.tup (p.map V.str))
def Pts (H : Hp) : List V → List (List Str) → Prop := Paired (PtAt H)
theorem PtAt.same {H H' : Hp} {v : V} {p : List Str} (s : Same H H') (h : PtAt H v p) : PtAt H' v p := by
  obtain ⟨t, e, h⟩ := h
  exact ⟨t, e, s _ _ h⟩
theorem PtAt.but {H H' : Hp} {q : Addr} {zs : List V} {v : V} {p : List Str} (hq : H q = some (.lst zs)) (b : But q H H') (h : PtAt H v p) : PtAt H' v p := by
  obtain ⟨t, e, h⟩ := h
  exact ⟨t, e, b _ _ (ne_of h hq (by intro z; cases z)) h⟩
theorem PtAt.wr {H : Hp} {q : Addr} {zs : List V} {o : HO} {v : V} {p : List Str} (hq : H q = some (.lst zs)) (h : PtAt H v p) : PtAt (upd H q o) v p := by
  obtain ⟨t, e, h⟩ := h
  exact ⟨t, e, by rw [upd_ne (ne_of h hq (by intro z; cases z))]; exact h⟩
theorem Pts.same {H H' : Hp} {vs : List V} {ps : List (List Str)} (s : Same H H') (h : Pts H vs ps) : Pts H' vs ps := Paired.mapP h fun _ _ z => z.same s
theorem Pts.but {H H' : Hp} {q : Addr} {zs : List V} {vs : List V} {ps : List (List Str)} (hq : H q = some (.lst zs)) (b : But q H H') (h : Pts H vs ps) : Pts H' vs ps := Paired.mapP h fun _ _ z => z.but hq b
theorem Pts.wr {H : Hp} {q : Addr} {zs : List V} {o : HO} {vs : List V} {ps : List (List Str)} (hq : H q = some (.lst zs)) (h : Pts H vs ps) : Pts (upd H q o) vs ps := Paired.mapP h fun _ _ z => z.wr hq
theorem Pts.length {H : Hp} {vs : List V} {ps : List (List Str)} (h : Pts H vs ps) : vs.length = ps.length := Paired.length h
/-- shown -/
def ptD (p : List Str) : PyData := .tuple (p.map PyData.str)
def ptsD (ps : List (List Str)) : PyData := .list (ps.map ptD)
theorem sh_strs {K : PySem.W.Frag} {nd : Bool} {H : Hp} : ∀ p : List Str, ShAll K nd H (p.map V.str) (p.map PyData.str)
  | [] => .nil
  | x :: r => .cons (.str x) (sh_strs r)
theorem PtAt.sh {K : PySem.W.Frag} {nd : Bool} {H : Hp} {v : V} {p : List Str} (h : PtAt H v p) : Sh K nd H v (ptD p) := by
  obtain ⟨t, rfl, h⟩ := h
  exact .tup (.inl (.inl h)) (sh_strs p)
theorem Pts.sh {K : PySem.W.Frag} {nd : Bool} {H : Hp} : ∀ {vs : List V} {ps : List (List Str)}, Pts H vs ps → ShAll K nd H vs (ps.map ptD)
  | _, _, .nil => .nil
  | _, _, .cons h t => .cons h.sh (Pts.sh t)
theorem fit_strs : ∀ p : List Str, (∀ x ∈ p, Sm 8 x) → FitAll (9 * p.length) 0 (p.map PyData.str)
  | [], _ => fitAll_nil
  | x :: r, h => by
    have := FitAll.cons (h x (List.mem_cons_self ..)).fit (fit_strs r fun y hy => h y (List.mem_cons_of_mem _ hy))
    refine this.mono ?_ (Nat.le_refl _)
    rw [List.length_cons]
    omega
theorem fit_pts (k : Nat) : ∀ ps : List (List Str), (∀ p ∈ ps, p.length ≤ k ∧ ∀ x ∈ p, Sm 8 x) → FitAll ((9 * k + 1) * ps.length) 1 (ps.map ptD)
  | [], _ => fitAll_nil
  | p :: r, h => by
    obtain ⟨h1, h2⟩ := h p (List.mem_cons_self ..)
    have hp : Fit (9 * k) 1 (ptD p) := (Fit.tup (fit_strs p h2)).mono (Nat.mul_le_mul_left 9 h1) (Nat.le_refl _)
    have := FitAll.cons hp (fit_pts k r fun y hy => h y (List.mem_cons_of_mem _ hy))
    refine this.mono ?_ (Nat.le_refl _)
    rw [List.length_cons, Nat.mul_add]
    omega
/-- lists of texts -/
def LsAt (H : Hp) (v : V) (l : List Str) : Prop := ∃ a, v = .ref a ∧ H a = some (.lst (l.map V.str))
theorem LsAt.same {H H' : Hp} {v : V} {p : List Str} (s : Same H H') (h : LsAt H v p) : LsAt H' v p := by
  obtain ⟨t, e, h⟩ := h
  exact ⟨t, e, s _ _ h⟩
section
variable {J : It} {n : Nat} {G : Hp → Prop} {Y : Nat → Hp → V → Hp → Prop}
/-- the outer loop -/
theorem out_it (w : Walk J n G Y) {M : Nat → (Hp → Prop) → V → Hp → Prop} {H0 : Hp} {Qd : Hp → Prop} (Pv : Nat → Hp → Prop) (h0 : Pv 0 H0) (hG : ∀ i H, i ≤ n → Pv i H → G H)
    (hs : ∀ i x H H', i < n → Pv i H → Y i H x H' → M i (Pv (i + 1)) x H') (hd : ∀ H, Pv n H → Qd H) :
    ∃ W : Nat → Nat → Hp → Prop, (∃ m, W 0 m H0) ∧ ∀ i m H, W i m H → (J.stop i H ∧ Qd H) ∨ (J.go i H ∧ ∃ Nx : Hp → Prop, (∀ H', Nx H' → ∃ m', m' < m ∧ W (i + 1) m' H') ∧ ∀ x H', J.yld i H x H' → M i Nx x H') := by
  refine ⟨fun i m H => m + i = n ∧ Pv i H, ⟨n, rfl, h0⟩, fun i m H hW => ?_⟩
  obtain ⟨e, p⟩ := hW
  have hG2 := hG i H (by omega) p
  by_cases hlt : i < n
  · refine Or.inr ⟨w.goes i H hlt hG2, Pv (i + 1), fun H' p' => ⟨m - 1, by omega, by omega, p'⟩, fun x H' y => ?_⟩
    exact hs i x H H' hlt p (w.yields i H x H' hlt hG2 y)
  · have e2 : i = n := by omega
    rw [e2] at p
    exact Or.inl ⟨by rw [e2]; exact w.stops H hG2, hd H p⟩
end
end Kv
/-! The order of the points. -/
namespace Kv
open PySem PySem.Spec PyProof.Rows L2
theorem stepC_get {c : List Str} (hc : 0 < c.length) : ∀ {rows : List (List Str)} {i : Nat} {p : List Str}, (stepC rows c)[i]? = some p →
    ∃ r x, p = r ++ [x] ∧ rows[i / c.length]? = some r ∧ c[i % c.length]? = some x
  | [], i, p, h => by
    have : (stepC [] c) = [] := rfl
    rw [this] at h
    simp at h
  | r :: rs, i, p, h => by
    have e : stepC (r :: rs) c = c.map (fun n => r ++ [n]) ++ stepC rs c := List.flatMap_cons
    rw [e] at h
    by_cases hi : i < c.length
    · rw [List.getElem?_append_left (by rw [List.length_map]; exact hi), List.getElem?_map, List.getElem?_eq_getElem hi] at h
      refine ⟨r, c[i], (Option.some.inj h).symm, ?_, ?_⟩
      · rw [Nat.div_eq_of_lt hi]
        rfl
      · rw [Nat.mod_eq_of_lt hi, List.getElem?_eq_getElem hi]
    · rw [List.getElem?_append_right (by rw [List.length_map]; omega), List.length_map] at h
      obtain ⟨r2, x, h1, h2, h3⟩ := stepC_get hc h
      have e2 : i = (i - c.length) + c.length := by omega
      refine ⟨r2, x, h1, ?_, ?_⟩
      · rw [e2, Nat.add_div_right _ hc]
        exact h2
      · rw [e2, Nat.add_mod_right]
        exact h3
theorem anc_ahead {rows : List Row2} (v : Valid rows) : ∀ (i : Nat) {n : Str} {ss : List Str} {x : Str}, rows[i]? = some (n, ss) → x ∈ Anc rows n → x ∈ fsts (rows.take (i + 1)) := by
  intro i
  induction i using Nat.strongRecOn with
  | ind i ih =>
    intro n ss x h hx
    rcases (anc_row v h x).mp hx with rfl | ⟨s, hs, hxs⟩
    · rw [List.take_add_one, h]
      unfold fsts
      rw [List.map_append]
      exact List.mem_append_right _ (List.mem_singleton.mpr rfl)
    · obtain ⟨_, _, _, v4⟩ := v i n ss h
      obtain ⟨j, ts, hj, e⟩ := row_at (v4 s hs)
      have := ih j hj e hxs
      have hs2 : rows.take (j + 1) <+: rows.take (i + 1) := by
        have : rows.take (j + 1) = (rows.take (i + 1)).take (j + 1) := by rw [List.take_take, Nat.min_eq_left (by omega)]
        rw [this]
        exact List.take_prefix _ _
      unfold fsts at this ⊢
      exact (hs2.map _).subset this
theorem names_ord {rows : List Row2} (v : Valid rows) {i j : Nat} {x y : Str} (hi : (fsts rows)[i]? = some x) (hj : (fsts rows)[j]? = some y) (h : y ∈ Anc rows x) : j ≤ i := by
  unfold fsts at hi hj
  rw [List.getElem?_map] at hi hj
  obtain ⟨ri, e1, e2⟩ := Option.map_eq_some_iff.mp hi
  obtain ⟨rj, f1, f2⟩ := Option.map_eq_some_iff.mp hj
  obtain ⟨n, ss⟩ := ri
  obtain ⟨m, ts⟩ := rj
  have e2' : n = x := e2
  have f2' : m = y := f2
  subst e2' f2'
  have h1 := anc_ahead v i e1 h
  by_cases hlt : i + 1 ≤ j
  · obtain ⟨_, v2, _, _⟩ := v j m ts f1
    refine absurd ?_ v2
    have hs2 : rows.take (i + 1) <+: rows.take j := by
      have : rows.take (i + 1) = (rows.take j).take (i + 1) := by rw [List.take_take, Nat.min_eq_left hlt]
      rw [this]
      exact List.take_prefix _ _
    unfold fsts at h1 ⊢
    exact (hs2.map _).subset h1
  · omega
theorem pts_ord {rows : List Row2} (v : Valid rows) (hr : 0 < rows.length) (f : Str → Str → Bool) (hf : ∀ x y, f x y = true → x ∈ fsts rows → y ∈ Anc rows x) :
    ∀ (n : Nat) {i j : Nat} {p q : List Str}, (combos (List.replicate n (fsts rows)))[i]? = some p → (combos (List.replicate n (fsts rows)))[j]? = some q → okZip f p q = true → j ≤ i
  | 0, i, j, p, q, hi, hj, _ => by
    have : j < 1 := (List.getElem?_eq_some_iff.mp hj).1
    omega
  | n + 1, i, j, p, q, hi, hj, h => by
    rw [List.replicate_succ', combos_snoc] at hi hj
    have hL : 0 < (fsts rows).length := by
      unfold fsts
      rw [List.length_map]
      exact hr
    obtain ⟨a, x, rfl, a1, a2⟩ := stepC_get hL hi
    obtain ⟨b, y, rfl, b1, b2⟩ := stepC_get hL hj
    have la := combos_len _ a (List.mem_of_getElem? a1)
    have lb := combos_len _ b (List.mem_of_getElem? b1)
    rw [okZip_snoc f x y a b (la.trans lb.symm)] at h
    obtain ⟨h1, h2⟩ := Bool.and_eq_true_iff.mp h
    have o1 := pts_ord v hr f hf n a1 b1 h1
    have o2 := names_ord v a2 b2 (hf x y h2 (List.mem_of_getElem? a2))
    have e1 := Nat.div_add_mod i (fsts rows).length
    have e2 := Nat.div_add_mod j (fsts rows).length
    have := Nat.mul_le_mul_left (fsts rows).length o1
    omega
theorem eqvAll_strs : ∀ p q : List Str, PyData.eqvAll (p.map PyData.str) (q.map PyData.str) = decide (p = q)
  | [], [] => by simp [PyData.eqvAll]
  | x :: p, [] => by simp [PyData.eqvAll]
  | [], y :: q => by simp [PyData.eqvAll]
  | x :: p, y :: q => by
    have ih := eqvAll_strs p q
    show (PyData.eqv (.str x) (.str y) && PyData.eqvAll (p.map PyData.str) (q.map PyData.str)) = _
    rw [ih]
    have e : PyData.eqv (.str x) (.str y) = (x == y) := by simp [PyData.eqv]
    rw [e]
    by_cases h : x = y
    · subst h
      rw [beq_self_eq_true]
      by_cases h2 : p = q
      · subst h2
        simp
      · simp [h2]
    · rw [beq_eq_false_iff_ne.mpr h]
      simp [h]
theorem eqv_pt (p q : List Str) : PyData.eqv (ptD p) (ptD q) = decide (p = q) := by
  show PyData.eqv (.tuple _) (.tuple _) = _
  rw [← eqvAll_strs]
  simp [PyData.eqv]
end Kv
/-! The highest of those that are common: one pass over the classes, and the same for points, column by column. -/
namespace Kv
open PySem PySem.Spec PyProof.Rows L2
theorem snocInd {α : Type} {m : List α → Prop} (h0 : m []) (h1 : ∀ l a, m l → m (l ++ [a])) : ∀ l, m l := fun l => by
  have k : ∀ r : List α, m r.reverse := by
    intro r
    induction r with
    | nil => exact h0
    | cons a r ih => rw [List.reverse_cons]; exact h1 _ _ ih
  have := k l.reverse
  rwa [List.reverse_reverse] at this
/-- n is common, and no other common one of l is above it -/
def topIn (c : Str → Bool) (up : Str → List Str) (l : List Str) (n : Str) : Bool := c n && !(l.any fun m => decide (m ≠ n) && c m && decide (m ∈ up n))
def hiStep (c : Str → Bool) (up : Str → List Str) (acc : List Str) (n : Str) : List Str := if (c n && !(acc.any fun m => decide (m ∈ up n))) = true then acc ++ [n] else acc
def hiL (c : Str → Bool) (up : Str → List Str) (l : List Str) : List Str := l.foldl (hiStep c up) []
section
variable {c : Str → Bool} {up : Str → List Str}
theorem topIn_iff {l : List Str} {n : Str} : topIn c up l n = true ↔ c n = true ∧ ∀ m ∈ l, m ≠ n → c m = true → m ∉ up n := by
  unfold topIn
  rw [Bool.and_eq_true, Bool.not_eq_true', List.any_eq_false]
  constructor
  · rintro ⟨h, k⟩
    refine ⟨h, fun m hm ne hc hu => k m hm ?_⟩
    simp [ne, hc, hu]
  · rintro ⟨h, k⟩
    refine ⟨h, fun m hm z => ?_⟩
    simp only [Bool.and_eq_true, decide_eq_true_eq] at z
    exact k m hm z.1.1 z.1.2 z.2
/-- a later one changes nothing for those before it -/
theorem topIn_more {l : List Str} {a n : Str} (h : a ∉ up n) : topIn c up (l ++ [a]) n = topIn c up l n := by
  apply Bool.eq_iff_iff.mpr
  rw [topIn_iff, topIn_iff]
  constructor
  · rintro ⟨h1, h2⟩
    exact ⟨h1, fun m hm => h2 m (List.mem_append_left _ hm)⟩
  · rintro ⟨h1, h2⟩
    refine ⟨h1, fun m hm ne hc => ?_⟩
    rcases List.mem_append.mp hm with q | q
    · exact h2 m q ne hc
    · rw [List.mem_singleton.mp q]
      exact h
/-- above every common one there is a highest one -/
theorem top_over (tr : ∀ x y z, y ∈ up x → z ∈ up y → z ∈ up x) : ∀ l : List Str, (l.Pairwise fun x y => y ∉ up x) → ∀ m ∈ l, c m = true → ∃ t ∈ l, topIn c up l t = true ∧ (t = m ∨ t ∈ up m) := by
  refine snocInd (fun _ m hm => by cases hm) fun l a ih hp m hm hc => ?_
  obtain ⟨p1, _, p3⟩ := List.pairwise_append.mp hp
  have old : ∀ m ∈ l, c m = true → ∃ t ∈ l ++ [a], topIn c up (l ++ [a]) t = true ∧ (t = m ∨ t ∈ up m) := fun m hm hc => by
    obtain ⟨t, ht, k, q⟩ := ih p1 m hm hc
    exact ⟨t, List.mem_append_left _ ht, (topIn_more (p3 t ht a (List.mem_singleton.mpr rfl))).trans k, q⟩
  rcases List.mem_append.mp hm with h | h
  · exact old m h hc
  · have e := List.mem_singleton.mp h
    subst e
    by_cases z : topIn c up (l ++ [m]) m = true
    · exact ⟨m, hm, z, .inl rfl⟩
    · have : ∃ x ∈ l ++ [m], x ≠ m ∧ c x = true ∧ x ∈ up m := by
        apply Classical.byContradiction
        intro w
        refine z (topIn_iff.mpr ⟨hc, fun x hx ne hcx hu => w ⟨x, hx, ne, hcx, hu⟩⟩)
      obtain ⟨x, hx, ne, hcx, hu⟩ := this
      rcases List.mem_append.mp hx with hx | hx
      · obtain ⟨t, ht, k, q⟩ := old x hx hcx
        refine ⟨t, ht, k, .inr ?_⟩
        rcases q with q | q
        · rw [q]; exact hu
        · exact tr m x t hu q
      · exact absurd (List.mem_singleton.mp hx) ne
/-- the pass keeps exactly the highest of those that are common -/
theorem hi_eq (tr : ∀ x y z, y ∈ up x → z ∈ up y → z ∈ up x) : ∀ l : List Str, l.Nodup → (l.Pairwise fun x y => y ∉ up x) → hiL c up l = l.filter (topIn c up l) := by
  refine snocInd (fun _ _ => rfl) fun l a ih nd hp => ?_
  obtain ⟨p1, _, p3⟩ := List.pairwise_append.mp hp
  obtain ⟨n1, _, n3⟩ := List.pairwise_append.mp nd
  have hi := ih n1 p1
  have e0 : l.filter (topIn c up (l ++ [a])) = l.filter (topIn c up l) := List.filter_congr fun x hx => topIn_more (p3 x hx a (List.mem_singleton.mpr rfl))
  have e1 : (c a && !((l.filter (topIn c up l)).any fun m => decide (m ∈ up a))) = topIn c up (l ++ [a]) a := by
    apply Bool.eq_iff_iff.mpr
    rw [topIn_iff, Bool.and_eq_true, Bool.not_eq_true', List.any_eq_false]
    constructor
    · rintro ⟨h1, h2⟩
      refine ⟨h1, fun m hm ne hc hu => ?_⟩
      rcases List.mem_append.mp hm with q | q
      · obtain ⟨t, ht, k, w⟩ := top_over (c := c) tr l p1 m q hc
        have : t ∈ up a := by
          rcases w with w | w
          · rw [w]; exact hu
          · exact tr a m t hu w
        exact h2 t (List.mem_filter.mpr ⟨ht, k⟩) (by simpa using this)
      · exact ne (List.mem_singleton.mp q)
    · rintro ⟨h1, h2⟩
      refine ⟨h1, fun m hm hu => ?_⟩
      obtain ⟨hm, k⟩ := List.mem_filter.mp hm
      exact h2 m (List.mem_append_left _ hm) (n3 m hm a (List.mem_singleton.mpr rfl)) (topIn_iff.mp k).1 (by simpa using hu)
  unfold hiL at hi ⊢
  rw [List.foldl_append, hi, List.filter_append, e0]
  show hiStep c up _ a = _
  unfold hiStep
  rw [e1]
  cases h : topIn c up (l ++ [a]) a with
  | true => simp [h]
  | false => simp [h]
end
/-! points: a choice of its own for every column -/
def okCol : List (Str → Bool) → List Str → Bool
  | g :: gs, x :: xs => g x && okCol gs xs
  | _, _ => true
theorem okCol_snoc (g : Str → Bool) (x : Str) : ∀ (gs : List (Str → Bool)) (xs : List Str), gs.length = xs.length → okCol (gs ++ [g]) (xs ++ [x]) = (okCol gs xs && g x)
  | [], [], _ => by simp [okCol]
  | h :: gs, y :: xs, e => by
    have := okCol_snoc g x gs xs (by simpa using e)
    simp [okCol, this, Bool.and_assoc]
  | [], _ :: _, e => by simp at e
  | _ :: _, [], e => by simp at e
theorem step_col (g : Str → Bool) (gs : List (Str → Bool)) (names : List Str) (rows : List (List Str)) (h : ∀ r ∈ rows, gs.length = r.length) :
    (stepC rows names).filter (okCol (gs ++ [g])) = stepC (rows.filter (okCol gs)) (names.filter g) := by
  induction rows with
  | nil => rfl
  | cons r rs ih =>
    have e : ∀ ns : List Str, (ns.map fun n => r ++ [n]).filter (okCol (gs ++ [g])) = if okCol gs r = true then (ns.filter g).map fun n => r ++ [n] else [] := by
      intro ns
      induction ns with
      | nil => simp
      | cons n ns ihn =>
        rw [List.map_cons, List.filter_cons, okCol_snoc g n gs r (h r (List.mem_cons_self ..)), ihn, List.filter_cons]
        cases okCol gs r <;> cases g n <;> simp
    have i2 := ih fun q hq => h q (List.mem_cons_of_mem _ hq)
    unfold stepC at i2 ⊢
    rw [List.flatMap_cons, List.filter_append, i2, e, List.filter_cons]
    cases okCol gs r <;> simp
/-- chosen column by column = chosen among all points -/
theorem combos_col (names : List Str) : ∀ gs : List (Str → Bool), combos (gs.map fun g => names.filter g) = (combos (List.replicate gs.length names)).filter (okCol gs) := by
  refine snocInd rfl fun gs g ih => ?_
  rw [List.map_append, List.map_cons, List.map_nil, combos_snoc, ih, List.length_append, List.length_singleton, List.replicate_succ', combos_snoc, step_col]
  intro r hr
  rw [combos_len _ r hr, List.length_replicate]
theorem mem_combos (names : List Str) : ∀ q : List Str, (∀ x ∈ q, x ∈ names) → q ∈ combos (List.replicate q.length names) := by
  refine snocInd (fun _ => List.mem_singleton.mpr rfl) fun q a ih h => ?_
  rw [List.length_append, List.length_singleton, List.replicate_succ', combos_snoc, stepC_mem]
  exact ⟨q, ih fun x hx => h x (List.mem_append_left _ hx), a, h a (List.mem_append_right _ (List.mem_singleton.mpr rfl)), rfl⟩
section
variable {up : Str → List Str} {names : List Str}
/-- place by place at or below -/
def under (up : Str → List Str) (p q : List Str) : Bool := okZip (fun x y => decide (y ∈ up x)) p q
theorem under_refl (rf : ∀ x ∈ names, x ∈ up x) : ∀ p : List Str, (∀ x ∈ p, x ∈ names) → under up p p = true
  | [], _ => rfl
  | x :: p, h => by
    have i := under_refl rf p fun y hy => h y (List.mem_cons_of_mem _ hy)
    unfold under at i ⊢
    simp [okZip, i, rf x (h x (List.mem_cons_self ..))]
/-- a point that is highest in every column: no other common one is above it -/
theorem col_top : ∀ (cs : List (Str → Bool)) (p q : List Str), cs.length = p.length → q.length = p.length → (∀ x ∈ q, x ∈ names) →
    okCol (cs.map fun c => topIn c up names) p = true → okCol cs q = true → under up p q = true → q = p
  | [], [], [], _, _, _, _, _, _ => rfl
  | c :: cs, x :: p, y :: q, h1, h2, hn, t, k, u => by
    have t' : (topIn c up names x && okCol (cs.map fun c => topIn c up names) p) = true := t
    have k' : (c y && okCol cs q) = true := k
    have u' : (decide (y ∈ up x) && under up p q) = true := u
    rw [Bool.and_eq_true] at t' k' u'
    have e := col_top cs p q (by simpa using h1) (by simpa using h2) (fun z hz => hn z (List.mem_cons_of_mem _ hz)) t'.2 k'.2 u'.2
    have e2 : y = x := by
      apply Classical.byContradiction
      intro ne
      exact (topIn_iff.mp t'.1).2 y (hn y (List.mem_cons_self ..)) ne k'.1 (of_decide_eq_true u'.1)
    rw [e, e2]
  | [], _ :: _, _, h, _, _, _, _, _ => by simp at h
  | _ :: _, [], _, h, _, _, _, _, _ => by simp at h
  | [], [], _ :: _, _, h, _, _, _, _ => by simp at h
  | _ :: _, _ :: _, [], _, h, _, _, _, _ => by simp at h
/-- and if it is not highest in some column, another common one is above it -/
theorem col_not (rf : ∀ x ∈ names, x ∈ up x) : ∀ (cs : List (Str → Bool)) (p : List Str), cs.length = p.length → (∀ x ∈ p, x ∈ names) → okCol cs p = true →
    okCol (cs.map fun c => topIn c up names) p = false → ∃ q : List Str, q.length = p.length ∧ (∀ x ∈ q, x ∈ names) ∧ q ≠ p ∧ okCol cs q = true ∧ under up p q = true
  | [], [], _, _, _, t => by cases t
  | c :: cs, x :: p, h1, hn, k, t => by
    have k' : (c x && okCol cs p) = true := k
    have t' : (topIn c up names x && okCol (cs.map fun c => topIn c up names) p) = false := t
    rw [Bool.and_eq_true] at k'
    have hp : ∀ z ∈ p, z ∈ names := fun z hz => hn z (List.mem_cons_of_mem _ hz)
    cases z : topIn c up names x with
    | true =>
      rw [z, Bool.true_and] at t'
      obtain ⟨q, a1, a2, a3, a4, a5⟩ := col_not rf cs p (by simpa using h1) hp k'.2 t'
      refine ⟨x :: q, by simp [a1], fun y hy => ?_, fun w => a3 (List.cons.inj w).2, ?_, ?_⟩
      · rcases List.mem_cons.mp hy with w | w
        · rw [w]; exact hn x (List.mem_cons_self ..)
        · exact a2 y w
      · show (c x && okCol cs q) = true
        rw [k'.1, a4] <;> rfl
      · show (decide (x ∈ up x) && under up p q) = true
        rw [a5, decide_eq_true (rf x (hn x (List.mem_cons_self ..)))] <;> rfl
    | false =>
      have : ∃ m ∈ names, m ≠ x ∧ c m = true ∧ m ∈ up x := by
        apply Classical.byContradiction
        intro w
        have := topIn_iff (c := c) (up := up) (l := names) (n := x) |>.mpr ⟨k'.1, fun m hm ne hc hu => w ⟨m, hm, ne, hc, hu⟩⟩
        rw [z] at this
        cases this
      obtain ⟨m, hm, ne, hc, hu⟩ := this
      refine ⟨m :: p, rfl, fun y hy => ?_, fun w => ne (List.cons.inj w).1, ?_, ?_⟩
      · rcases List.mem_cons.mp hy with w | w
        · rw [w]; exact hm
        · exact hp y w
      · show (c m && okCol cs p) = true
        rw [hc, k'.2] <;> rfl
      · show (decide (m ∈ up x) && under up p p) = true
        rw [under_refl rf p hp, decide_eq_true hu] <;> rfl
  | [], _ :: _, h, _, _, _ => by simp at h
  | _ :: _, [], h, _, _, _ => by simp at h
/-- the highest common points: chosen column by column = the highest of all common points -/
theorem hi_points (rf : ∀ x ∈ names, x ∈ up x) (cs : List (Str → Bool)) :
    combos (cs.map fun c => names.filter (topIn c up names)) =
      (combos (List.replicate cs.length names)).filter fun p => okCol cs p && !((combos (List.replicate cs.length names)).any fun q => decide (q ≠ p) && okCol cs q && under up p q) := by
  have e := combos_col names (cs.map fun c => topIn c up names)
  rw [List.map_map, List.length_map] at e
  refine Eq.trans e (List.filter_congr fun p hp => ?_)
  have hl : p.length = cs.length := (combos_len _ p hp).trans List.length_replicate
  have hn : ∀ x ∈ p, x ∈ names := combos_all (· ∈ names) (fun c hc x hx => by rw [List.eq_of_mem_replicate hc] at hx; exact hx) p hp
  cases t : okCol (cs.map fun c => topIn c up names) p with
  | true =>
    symm
    rw [Bool.and_eq_true, Bool.not_eq_true', List.any_eq_false]
    have ok : ∀ (cs : List (Str → Bool)) (p : List Str), okCol (cs.map fun c => topIn c up names) p = true → okCol cs p = true := by
      intro cs
      induction cs with
      | nil => intro p _; cases p <;> rfl
      | cons c cs ih =>
        intro p h
        cases p with
        | nil => rfl
        | cons x p =>
          have h' : (topIn c up names x && okCol (cs.map fun c => topIn c up names) p) = true := h
          rw [Bool.and_eq_true] at h'
          show (c x && okCol cs p) = true
          rw [(topIn_iff.mp h'.1).1, ih p h'.2] <;> rfl
    refine ⟨ok cs p t, fun q hq z => ?_⟩
    simp only [Bool.and_eq_true, decide_eq_true_eq] at z
    have ql : q.length = cs.length := (combos_len _ q hq).trans List.length_replicate
    have qn : ∀ x ∈ q, x ∈ names := combos_all (· ∈ names) (fun c hc x hx => by rw [List.eq_of_mem_replicate hc] at hx; exact hx) q hq
    exact z.1.1 (col_top cs p q hl.symm (ql.trans hl.symm) qn t z.1.2 z.2)
  | false =>
    symm
    cases k : okCol cs p with
    | false => rfl
    | true =>
      obtain ⟨q, a1, a2, a3, a4, a5⟩ := col_not rf cs p hl.symm hn k t
      have hq : q ∈ combos (List.replicate cs.length names) := by
        have := mem_combos names q a2
        rwa [a1, hl] at this
      have : ((combos (List.replicate cs.length names)).any fun q => decide (q ≠ p) && okCol cs q && under up p q) = true := List.any_eq_true.mpr ⟨q, hq, by simp [a3, a4, a5]⟩
      rw [this] <;> rfl
end
end Kv
/-! A hierarchy as a tree. -/
namespace Pu
open PySem PySem.Spec PyProof.Rows L2 Kv
def par2 (i j : Nat) : List D → S
  | [d, e] => fun ρ => some (.nx ((ρ.set i (.val d)).set j (.val e)))
  | _ => fun _ => none
def rowD (r : Row2) : D := .tup [.str r.1, .tup (r.2.map D.str)]
def flagD (as : List Str) : D := .dic (as.map Sum.inr) (as.map fun _ => D.bl true)
def idxD (n : Nat) : List D := (List.range n).map fun i => D.int (i : Nat)
def hierD (C : Addr) (rows : List Row2) : D := .obj C [("rows" : Str), "places", "above"] [.lst (rows.map rowD), .dic ((fsts rows).map Sum.inr) (idxD rows.length), .dic ((ancTab rows).map fun p => Sum.inr p.1) ((ancTab rows).map fun p => flagD p.2)]
def strOf : D → Option Str
  | .str x => some x
  | _ => none
def rowOf : D → Option Row2
  | .tup [.str n, .tup ss] => (strsD ss).map fun xs => (n, xs)
  | _ => none
def rowsOf' : List D → Option (List Row2)
  | [] => some []
  | d :: ds => match rowOf d, rowsOf' ds with
    | some r, some rs => some (r :: rs)
    | _, _ => none
def rowsOf : D → Option (List Row2)
  | .lst ds => rowsOf' ds
  | _ => none
open Classical in
noncomputable def mkH (C : Addr) (d : D) : Option R := match rowsOf d with
  | some rows => if Valid rows ∧ rows.length ≤ 20 then some (.val (hierD C rows)) else none
  | none => none
theorem mkH_ok {C : Addr} {d : D} {rows : List Row2} (h : rowsOf d = some rows) (v : Valid rows) (l : rows.length ≤ 20) : mkH C d = some (.val (hierD C rows)) := by
  unfold mkH
  rw [h]
  exact if_pos ⟨v, l⟩
end Pu
/-! Named steps, and what must hold ahead of a step so that something holds behind it. -/
namespace Pu
open PySem PySem.Spec PyProof.Rows L2 Kv
/-! ### names for the steps that rules give -/
def op1 (o : D → Option D) (fa : P D) : P D := bnd fa fun x => lft (o x)
def opR (o : D → Option R) (fa : P D) : P R := bnd fa fun x => lft (o x)
def opL (o : D → Option (List D)) (fa : P D) : P (List D) := bnd fa fun x => lft (o x)
def opV (o : List D → Option D) (fr : P (List D)) : P D := bnd fr fun ds => lft (o ds)
def cal (F : P R) (n : Nat) (fr : P (List D)) : P R := bnd fr fun ds => if ds.length = n then app F ds else fun _ => none
def calB (i : Nat) (F : P R) (n : Nat) (fr : P (List D)) : P R := bnd (lentP i fr) fun ds => appB i F n ds
def met (C : Addr) (m : Str) (F : P R) (n : Nat) (fo : P D) (fr : P (List D)) : P R := bnd fo fun d => if isObj C m d = true then bnd fr fun ds => if ds.length + 1 = n then app F (d :: ds) else fun _ => none else fun _ => none
def met0 (C : Addr) (m : Str) (F : P R) (n : Nat) (fo : P D) : P R := bnd fo fun d => if isObj C m d = true ∧ 1 = n then app F [d] else fun _ => none
def metS (C : Addr) (m : Str) (F : P R) (n : Nat) (fo : P D) (fr : P (List D)) : P R := bnd fo fun d => if isObj C m d = true then bnd fr fun ds => starF n F (d :: ds) else fun _ => none
def slc (fe : P D) (fl fh : P (Option Int)) : P R := bnd fe fun d => bnd fl fun l => bnd fh fun h => lft ((lstOf d).map fun xs => .own (.lst (cutD xs l h)))
def sOpt (fe : P D) : P (Option Int) := bnd fe fun d => lft (asI d)
def revO (d : D) : Option R := (lstOf d).map fun xs => .own (.lst xs.reverse)
def iff (A : P Bool) (fa fb : S) : S := sb A fun c => if c = true then fa else fb
def ret (fe : P R) : S := sb fe fun r ρ => some (.rt r ρ)
def retN : S := fun ρ => some (.rt (.val .non) ρ)
def expr (fe : P D) : S := sb fe fun _ => sk
def set' (i : Nat) (fe : P R) : S := sb fe fun r => put i r
def for' (fi : P (List D)) (T : Tg) (fb : S) : S := sb fi fun ds => frL T fb ds
def unp' (T : Tg) (fe : P D) : S := sb fe fun d => unp T d
def par' (i j : Nat) (fr : P (List D)) : S := sb fr fun ds => par2 i j ds
def asg' (fe : P D) (h : D → S) : S := fun ρ => match sb fe h ρ with | some (.nx ρ') => some (.nx ρ') | some (.er c ns ds ρ') => some (.er c ns ds ρ') | _ => none
def gTup' (hs : List (D → S)) : D → S := fun d => sb (lft (tupOf d)) fun ds => if ds.length = hs.length then asgs hs ds else fun _ => none
def gName' (i : Nat) : D → S := fun d => put i (.val d)
def raise' (C : Addr) (ns : List Str) (cd : List D → Bool) (fr : P (List D)) : S := sb fr fun ds => rs C ns cd ds
def brk : S := fun ρ => some (.bk ρ)
def cnt : S := fun ρ => some (.ct ρ)
/-! ### ahead of a step -/
abbrev QE := Value → List Str → List D → En → Prop
@[irreducible] def W {α : Type} (m : P α) (ρ : En) (Q : α → En → Prop) (E : QE) : Prop := match m ρ with
  | none => False
  | some (.ok a ρ') => Q a ρ'
  | some (.er c ns ds ρ') => E c ns ds ρ'
@[irreducible] def WS (f : S) (ρ : En) (N : En → Prop) (T : R → En → Prop) (B C : En → Prop) (E : QE) : Prop := match f ρ with
  | none => False
  | some (.nx ρ') => N ρ'
  | some (.rt r ρ') => T r ρ'
  | some (.bk ρ') => B ρ'
  | some (.ct ρ') => C ρ'
  | some (.er c ns ds ρ') => E c ns ds ρ'
section
variable {α β : Type} {ρ ρ' : En} {E E' : QE} {i n : Nat}
theorem W.mono {m : P α} {Q Q' : α → En → Prop} (h : W m ρ Q E) (q : ∀ a ρ', Q a ρ' → Q' a ρ') (e : ∀ c ns ds ρ', E c ns ds ρ' → E' c ns ds ρ') : W m ρ Q' E' := by
  unfold W at h ⊢
  split
  · rename_i z; rw [z] at h; exact h
  · rename_i z; rw [z] at h; exact q _ _ h
  · rename_i z; rw [z] at h; exact e _ _ _ _ h
/-- from an equation, and to one -/
theorem W.of {m : P α} {a : α} {Q : α → En → Prop} (h : m ρ = some (.ok a ρ')) (q : Q a ρ') : W m ρ Q E := by unfold W; rw [h]; exact q
theorem W.to {m : P α} {a : α} (h : W m ρ (fun b ρ2 => b = a ∧ ρ2 = ρ') (fun _ _ _ _ => False)) : m ρ = some (.ok a ρ') := by
  unfold W at h
  split at h
  · exact h.elim
  · rename_i z; obtain ⟨rfl, rfl⟩ := h; exact z
  · exact h.elim
theorem w_prt {a : α} {Q : α → En → Prop} (h : Q a ρ) : W (prt a) ρ Q E := by unfold W; exact h
theorem w_bnd {m : P α} {k : α → P β} {Q : β → En → Prop} (h : W m ρ (fun a ρ' => W (k a) ρ' Q E) E) : W (bnd m k) ρ Q E := by
  unfold W at h ⊢
  unfold bnd
  split at h
  · rename_i z; exact h.elim
  · rename_i z; rw [z]; exact h
  · rename_i z; rw [z]; exact h
theorem w_lft {o : Option α} {a : α} {Q : α → En → Prop} (e : o = some a) (h : Q a ρ) : W (lft o) ρ Q E := by subst e; unfold W; exact h
theorem w_rdV {d : D} {Q : D → En → Prop} (e : ρ[i]? = some (.val d)) (h : Q d ρ) : W (rd i) ρ Q E := by unfold W rd; rw [e]; exact h
theorem w_rdO {d : D} {Q : D → En → Prop} (e : ρ[i]? = some (.own d)) (h : Q d (ρ.set i (.val d))) : W (rd i) ρ Q E := by unfold W rd; rw [e]; exact h
theorem w_pkV {d : D} {Q : D → En → Prop} (e : ρ[i]? = some (.val d)) (h : Q d ρ) : W (pk i) ρ Q E := by unfold W pk; rw [e]; exact h
theorem w_pkO {d : D} {Q : D → En → Prop} (e : ρ[i]? = some (.own d)) (h : Q d ρ) : W (pk i) ρ Q E := by unfold W pk; rw [e]; exact h
theorem w_mvV {d : D} {Q : R → En → Prop} (e : ρ[i]? = some (.val d)) (h : Q (.val d) ρ) : W (mv i) ρ Q E := by unfold W mv; rw [e]; exact h
theorem w_mvO {d : D} {Q : R → En → Prop} (e : ρ[i]? = some (.own d)) (h : Q (.own d) (ρ.set i .un)) : W (mv i) ρ Q E := by unfold W mv; rw [e]; exact h
theorem w_ownL {xs : List D} {Q : Unit → En → Prop} (e : ρ[i]? = some (.own (.lst xs))) (h : Q () ρ) : W (ownL i) ρ Q E := by unfold W ownL; rw [e]; exact h
theorem w_mutL {step : List D → List D → Option (D × List D)} {ds xs ys : List D} {d : D} {Q : D → En → Prop} (e : ρ[i]? = some (.own (.lst xs))) (s : step xs ds = some (d, ys)) (h : Q d (ρ.set i (.own (.lst ys)))) : W (mutL i step ds) ρ Q E := by
  unfold W mutL; simp only [e, s]; exact h
theorem w_fz {f : P R} {Q : D → En → Prop} (h : W f ρ (fun r ρ' => Q r.d ρ') E) : W (fz f) ρ Q E := w_bnd (h.mono (fun _ _ h => w_prt h) fun _ _ _ _ h => h)
theorem w_vl {f : P D} {Q : R → En → Prop} (h : W f ρ (fun d ρ' => Q (.val d) ρ') E) : W (vl f) ρ Q E := w_bnd (h.mono (fun _ _ h => w_prt h) fun _ _ _ _ h => h)
theorem w_op1 {o : D → Option D} {fa : P D} {Q : D → En → Prop} (h : W fa ρ (fun x ρ' => W (lft (o x)) ρ' Q E) E) : W (op1 o fa) ρ Q E := w_bnd h
theorem w_opR {o : D → Option R} {fa : P D} {Q : R → En → Prop} (h : W fa ρ (fun x ρ' => W (lft (o x)) ρ' Q E) E) : W (opR o fa) ρ Q E := w_bnd h
theorem w_opL {o : D → Option (List D)} {fa : P D} {Q : List D → En → Prop} (h : W fa ρ (fun x ρ' => W (lft (o x)) ρ' Q E) E) : W (opL o fa) ρ Q E := w_bnd h
theorem w_opV {o : List D → Option D} {fr : P (List D)} {Q : D → En → Prop} (h : W fr ρ (fun x ρ' => W (lft (o x)) ρ' Q E) E) : W (opV o fr) ρ Q E := w_bnd h
theorem w_op2 {o : D → D → Option D} {fa fb : P D} {Q : D → En → Prop} (h : W fa ρ (fun x ρ1 => W fb ρ1 (fun y ρ2 => W (lft (o x y)) ρ2 Q E) E) E) : W (op2 o fa fb) ρ Q E :=
  w_bnd (h.mono (fun _ _ h => w_bnd h) fun _ _ _ _ h => h)
theorem w_tst {f : P D} {Q : Bool → En → Prop} (h : W f ρ (fun d ρ' => W (lft (asB d)) ρ' Q E) E) : W (tst f) ρ Q E := w_bnd h
theorem w_ifB {c : Bool} {f g : P α} {Q : α → En → Prop} (h1 : c = true → W f ρ Q E) (h2 : c = false → W g ρ Q E) : W (if c = true then f else g) ρ Q E := by
  cases c
  · exact h2 rfl
  · exact h1 rfl
theorem w_ifT {c : Prop} [Decidable c] {f g : P α} {Q : α → En → Prop} (hc : c) (h1 : W f ρ Q E) : W (if c then f else g) ρ Q E := by rw [if_pos hc]; exact h1
theorem w_ifF {c : Prop} [Decidable c] {f g : P α} {Q : α → En → Prop} (hc : ¬ c) (h1 : W g ρ Q E) : W (if c then f else g) ρ Q E := by rw [if_neg hc]; exact h1
theorem w_andV {fa fb : P D} {Q : D → En → Prop} (h : W (tst fa) ρ (fun c ρ' => W (if c = true then fb else prt (.bl false)) ρ' Q E) E) : W (andV fa fb) ρ Q E := w_bnd h
theorem w_orV {fa fb : P D} {Q : D → En → Prop} (h : W (tst fa) ρ (fun c ρ' => W (if c = true then prt (.bl true) else fb) ρ' Q E) E) : W (orV fa fb) ρ Q E := w_bnd h
theorem w_notV {fa : P D} {Q : D → En → Prop} (h : W (tst fa) ρ (fun c ρ' => Q (.bl (!c)) ρ') E) : W (notV fa) ρ Q E := w_bnd (h.mono (fun _ _ h => w_prt h) fun _ _ _ _ h => h)
theorem w_andB {A B : P Bool} {Q : Bool → En → Prop} (h : W A ρ (fun c ρ' => W (if c = true then B else prt false) ρ' Q E) E) : W (andB A B) ρ Q E := w_bnd h
theorem w_orB {A B : P Bool} {Q : Bool → En → Prop} (h : W A ρ (fun c ρ' => W (if c = true then prt true else B) ρ' Q E) E) : W (orB A B) ρ Q E := w_bnd h
theorem w_notB {A : P Bool} {Q : Bool → En → Prop} (h : W A ρ (fun c ρ' => Q (!c) ρ') E) : W (notB A) ρ Q E := w_bnd (h.mono (fun _ _ h => w_prt h) fun _ _ _ _ h => h)
theorem w_ifV {A : P Bool} {fa fb : P α} {Q : α → En → Prop} (h : W A ρ (fun c ρ' => W (if c = true then fa else fb) ρ' Q E) E) : W (ifV A fa fb) ρ Q E := w_bnd h
theorem w_consA {fa : P D} {fr : P (List D)} {Q : List D → En → Prop} (h : W fa ρ (fun x ρ1 => W fr ρ1 (fun xs ρ2 => Q (x :: xs) ρ2) E) E) : W (consA fa fr) ρ Q E := w_bnd (h.mono (fun _ _ h => w_bnd (h.mono (fun _ _ h => w_prt h) fun _ _ _ _ h => h)) fun _ _ _ _ h => h)
theorem w_starA {fa : P D} {fr : P (List D)} {Q : List D → En → Prop} (h : W fa ρ (fun x ρ1 => ∃ xs, seqD x = some xs ∧ W fr ρ1 (fun ys ρ2 => Q (xs ++ ys) ρ2) E) E) : W (starA fa fr) ρ Q E :=
  w_bnd (h.mono (fun _ _ h => by obtain ⟨xs, e, h⟩ := h; simp only [e]; exact w_bnd (h.mono (fun _ _ h => w_prt h) fun _ _ _ _ h => h)) fun _ _ _ _ h => h)
theorem w_mkT {fr : P (List D)} {Q : D → En → Prop} (h : W fr ρ (fun xs ρ' => xs.length ≤ sizeLine ∧ Q (.tup xs) ρ') E) : W (mkT fr) ρ Q E :=
  w_bnd (h.mono (fun xs _ h => w_lft (by rw [fits_of h.1]; rfl) h.2) fun _ _ _ _ h => h)
theorem w_mkL {fr : P (List D)} {Q : R → En → Prop} (h : W fr ρ (fun xs ρ' => xs.length ≤ sizeLine ∧ Q (.own (.lst xs)) ρ') E) : W (mkL fr) ρ Q E :=
  w_bnd (h.mono (fun xs _ h => w_lft (by rw [fits_of h.1]; rfl) h.2) fun _ _ _ _ h => h)
theorem w_ix {fb : P D} {Q : D → En → Prop} (h : W (pk i) ρ (fun _ ρ1 => W fb ρ1 (fun y ρ2 => W (pk i) ρ2 (fun x ρ3 => W (lft (ixD x y)) ρ3 Q E) E) E) E) : W (ixN' i fb) ρ Q E :=
  w_bnd (h.mono (fun _ _ h => w_bnd (h.mono (fun _ _ h => w_bnd h) fun _ _ _ _ h => h)) fun _ _ _ _ h => h)
theorem w_chn {o o' : D → D → Option D} {fa fb fc : P D} {Q : D → En → Prop} (h : W fa ρ (fun x ρ1 => W fb ρ1 (fun y ρ2 => W (lft ((o x y).bind asB)) ρ2 (fun k ρ3 => W (if k = true then bnd fc fun z => lft (o' y z) else prt (.bl false)) ρ3 Q E) E) E) E) : W (chn o o' fa fb fc) ρ Q E :=
  w_bnd (h.mono (fun _ _ h => w_bnd (h.mono (fun _ _ h => w_bnd h) fun _ _ _ _ h => h)) fun _ _ _ _ h => h)
theorem w_seqP {f : P D} {Q : List D → En → Prop} (h : W f ρ (fun d ρ' => W (lft (seqD d)) ρ' Q E) E) : W (seqP f) ρ Q E := w_bnd h
theorem w_sOpt {f : P D} {Q : Option Int → En → Prop} (h : W f ρ (fun d ρ' => W (lft (asI d)) ρ' Q E) E) : W (sOpt f) ρ Q E := w_bnd h
theorem w_slc {fe : P D} {fl fh : P (Option Int)} {Q : R → En → Prop} (h : W fe ρ (fun d ρ1 => W fl ρ1 (fun l ρ2 => W fh ρ2 (fun u ρ3 => W (lft ((lstOf d).map fun xs => R.own (.lst (cutD xs l u)))) ρ3 Q E) E) E) E) : W (slc fe fl fh) ρ Q E :=
  w_bnd (h.mono (fun _ _ h => w_bnd (h.mono (fun _ _ h => w_bnd h) fun _ _ _ _ h => h)) fun _ _ _ _ h => h)
theorem w_mts {op : Str → List D → Option D} {fo : P D} {fr : P (List D)} {Q : D → En → Prop} (h : W fo ρ (fun d ρ1 => ∃ t, d = .str t ∧ W fr ρ1 (fun ds ρ2 => W (lft (op t ds)) ρ2 Q E) E) E) : W (mts op fo fr) ρ Q E :=
  w_bnd (h.mono (fun _ _ h => by obtain ⟨t, rfl, h⟩ := h; exact w_bnd h) fun _ _ _ _ h => h)
theorem w_mtt {fr : P (List D)} {step : List D → List D → Option (D × List D)} {Q : D → En → Prop} (h : W (ownL i) ρ (fun _ ρ1 => W fr ρ1 (fun ds ρ2 => W (mutL i step ds) ρ2 Q E) E) E) : W (mtt i fr step) ρ Q E :=
  w_bnd (h.mono (fun _ _ h => w_bnd h) fun _ _ _ _ h => h)
/-! ### calls -/
theorem w_app {F : P R} {ds : List D} {Q : R → En → Prop} (h : W F (vals ds) (fun r _ => Q r ρ) (fun c ns es _ => E c ns es ρ)) : W (app F ds) ρ Q E := by
  unfold W app
  unfold W at h
  split at h
  · exact h.elim
  · rename_i z; rw [z]; exact h
  · rename_i z; rw [z]; exact h
theorem w_cal {F : P R} {fr : P (List D)} {Q : R → En → Prop} (h : W fr ρ (fun ds ρ1 => ds.length = n ∧ W F (vals ds) (fun r _ => Q r ρ1) (fun c ns es _ => E c ns es ρ1)) E) : W (cal F n fr) ρ Q E :=
  w_bnd (h.mono (fun _ _ h => w_ifT h.1 (w_app h.2)) fun _ _ _ _ h => h)
theorem w_appB {F : P R} {ds : List D} {d : D} {Q : R → En → Prop} (e : ρ[i]? = some (.own d)) (hn : ds.length + 1 = n) (h : W F (.own d :: vals ds) (fun r ρ2 => ∃ d' t, ρ2 = .own d' :: t ∧ Q r (ρ.set i (.own d'))) (fun c ns es ρ2 => ∃ d' t, ρ2 = .own d' :: t ∧ E c ns es (ρ.set i (.own d')))) : W (appB i F n ds) ρ Q E := by
  unfold W appB
  unfold W at h
  simp only [e, if_pos hn]
  split at h
  · exact h.elim
  · rename_i z; obtain ⟨d', t, rfl, h⟩ := h; rw [z]; exact h
  · rename_i z; obtain ⟨d', t, rfl, h⟩ := h; rw [z]; exact h
theorem w_calB {F : P R} {fr : P (List D)} {d : D} {Q : R → En → Prop} (e : ρ[i]? = some (.own d)) (h : W fr ρ (fun ds ρ1 => W (appB i F n ds) ρ1 Q E) E) : W (calB i F n fr) ρ Q E := by
  refine w_bnd ?_
  unfold W lentP
  unfold W at h
  simp only [e]
  exact h
theorem w_met {C : Addr} {m : Str} {F : P R} {fo : P D} {fr : P (List D)} {Q : R → En → Prop} (h : W fo ρ (fun d ρ0 => isObj C m d = true ∧ W fr ρ0 (fun ds ρ1 => ds.length + 1 = n ∧ W F (vals (d :: ds)) (fun r _ => Q r ρ1) (fun c ns es _ => E c ns es ρ1)) E) E) : W (met C m F n fo fr) ρ Q E :=
  w_bnd (h.mono (fun _ _ h => w_ifT h.1 (w_bnd (h.2.mono (fun _ _ h => w_ifT h.1 (w_app h.2)) fun _ _ _ _ h => h))) fun _ _ _ _ h => h)
theorem w_met0 {C : Addr} {m : Str} {F : P R} {fo : P D} {Q : R → En → Prop} (h : W fo ρ (fun d ρ1 => isObj C m d = true ∧ 1 = n ∧ W F (vals [d]) (fun r _ => Q r ρ1) (fun c ns es _ => E c ns es ρ1)) E) : W (met0 C m F n fo) ρ Q E :=
  w_bnd (h.mono (fun _ _ h => w_ifT ⟨h.1, h.2.1⟩ (w_app h.2.2)) fun _ _ _ _ h => h)
theorem w_metS {C : Addr} {m : Str} {F : P R} {fo : P D} {fr : P (List D)} {Q : R → En → Prop} (h : W fo ρ (fun d ρ0 => isObj C m d = true ∧ W fr ρ0 (fun ds ρ1 => n ≤ (d :: ds).length ∧ (d :: ds).length ≤ sizeLine ∧ W F (vals ((d :: ds).take n ++ [.tup ((d :: ds).drop n)])) (fun r _ => Q r ρ1) (fun c ns es _ => E c ns es ρ1)) E) E) : W (metS C m F n fo fr) ρ Q E :=
  w_bnd (h.mono (fun _ _ h => w_ifT h.1 (w_bnd (h.2.mono (fun _ _ h => by
    unfold starF
    rw [if_pos ⟨h.1, h.2.1⟩]
    exact w_app h.2.2) fun _ _ _ _ h => h))) fun _ _ _ _ h => h)
end
/-! ### statements -/
section
variable {α : Type} {ρ : En} {N B C : En → Prop} {T : R → En → Prop} {E : QE} {i j : Nat}
theorem WS.mono {f : S} {N' B' C' : En → Prop} {T' : R → En → Prop} {E' : QE} (h : WS f ρ N T B C E) (n : ∀ ρ, N ρ → N' ρ) (t : ∀ r ρ, T r ρ → T' r ρ) (b : ∀ ρ, B ρ → B' ρ) (c : ∀ ρ, C ρ → C' ρ) (e : ∀ c ns ds ρ, E c ns ds ρ → E' c ns ds ρ) : WS f ρ N' T' B' C' E' := by
  unfold WS at h ⊢
  split
  · rename_i z; rw [z] at h; exact h
  · rename_i z; rw [z] at h; exact n _ h
  · rename_i z; rw [z] at h; exact t _ _ h
  · rename_i z; rw [z] at h; exact b _ h
  · rename_i z; rw [z] at h; exact c _ h
  · rename_i z; rw [z] at h; exact e _ _ _ _ h
theorem s_sk (h : N ρ) : WS sk ρ N T B C E := by unfold WS; exact h
theorem s_sq {f k : S} (h : WS f ρ (fun ρ' => WS k ρ' N T B C E) T B C E) : WS (sq f k) ρ N T B C E := by
  unfold WS at h ⊢
  unfold sq
  split at h
  · rename_i z; exact h.elim
  · rename_i z; rw [z]; exact h
  · rename_i z; rw [z]; exact h
  · rename_i z; rw [z]; exact h
  · rename_i z; rw [z]; exact h
  · rename_i z; rw [z]; exact h
theorem s_sb {f : P α} {k : α → S} (h : W f ρ (fun a ρ' => WS (k a) ρ' N T B C E) E) : WS (sb f k) ρ N T B C E := by
  unfold WS
  unfold sb
  unfold W at h
  split at h
  · rename_i z; exact h.elim
  · rename_i z; rw [z]; unfold WS at h; exact h
  · rename_i z; rw [z]; exact h
theorem s_ifB {c : Bool} {f g : S} (h1 : c = true → WS f ρ N T B C E) (h2 : c = false → WS g ρ N T B C E) : WS (if c = true then f else g) ρ N T B C E := by
  cases c
  · exact h2 rfl
  · exact h1 rfl
theorem s_iff {A : P Bool} {fa fb : S} (h : W A ρ (fun c ρ' => WS (if c = true then fa else fb) ρ' N T B C E) E) : WS (iff A fa fb) ρ N T B C E := s_sb h
theorem s_ret {fe : P R} (h : W fe ρ (fun r ρ' => T r ρ') E) : WS (ret fe) ρ N T B C E := s_sb (h.mono (fun _ _ h => by unfold WS; exact h) fun _ _ _ _ h => h)
theorem s_retN (h : T (.val .non) ρ) : WS retN ρ N T B C E := by unfold WS; exact h
theorem s_brk (h : B ρ) : WS brk ρ N T B C E := by unfold WS; exact h
theorem s_cnt (h : C ρ) : WS cnt ρ N T B C E := by unfold WS; exact h
theorem s_expr {fe : P D} (h : W fe ρ (fun _ ρ' => N ρ') E) : WS (expr fe) ρ N T B C E := s_sb (h.mono (fun _ _ h => s_sk h) fun _ _ _ _ h => h)
@[reducible] def sl : R → Slot
  | .val d => .val d
  | .own d => .own d
theorem s_put {r : R} (h : N (ρ.set i (sl r))) : WS (put i r) ρ N T B C E := by unfold WS; cases r <;> exact h
theorem s_set {fe : P R} (h : W fe ρ (fun r ρ' => N (ρ'.set i (sl r))) E) : WS (set' i fe) ρ N T B C E := s_sb (h.mono (fun _ _ h => s_put h) fun _ _ _ _ h => h)
theorem s_unp {T' : Tg} {fe : P D} (h : W fe ρ (fun d ρ' => ∃ ρ2, gset T' d ρ' = some ρ2 ∧ N ρ2) E) : WS (unp' T' fe) ρ N T B C E := s_sb (h.mono (fun d ρ' h => by
  obtain ⟨ρ2, e, h⟩ := h
  unfold WS unp
  rw [e]
  exact h) fun _ _ _ _ h => h)
theorem s_par {fr : P (List D)} (h : W fr ρ (fun ds ρ' => ∃ d e, ds = [d, e] ∧ N ((ρ'.set i (.val d)).set j (.val e))) E) : WS (par' i j fr) ρ N T B C E := s_sb (h.mono (fun d ρ' h => by
  obtain ⟨d, e, rfl, h⟩ := h
  unfold WS
  exact h) fun _ _ _ _ h => h)
theorem s_asg {fe : P D} {g : D → S} (h : W fe ρ (fun d ρ' => WS (g d) ρ' N (fun _ _ => False) (fun _ => False) (fun _ => False) E) E) : WS (asg' fe g) ρ N T B C E := by
  have h := s_sb h
  unfold WS at h ⊢
  unfold asg'
  split at h
  · exact h.elim
  · rename_i z; rw [z]; exact h
  · exact h.elim
  · exact h.elim
  · exact h.elim
  · rename_i z; rw [z]; exact h
theorem s_gName {d : D} (h : N (ρ.set i (.val d))) : WS (gName' i d) ρ N T B C E := by unfold WS; exact h
theorem s_gTup {hs : List (D → S)} {ds : List D} {d : D} (e : tupOf d = some ds) (l : ds.length = hs.length) (h : WS (asgs hs ds) ρ N T B C E) : WS (gTup' hs d) ρ N T B C E := s_sb (w_lft e (by rw [if_pos l]; exact h))
theorem s_asgs0 (h : N ρ) : WS (asgs [] []) ρ N T B C E := by unfold WS; exact h
theorem s_asgs1 {g : D → S} {hs : List (D → S)} {d : D} {ds : List D} (h : WS (g d) ρ (fun ρ' => WS (asgs hs ds) ρ' N T B C E) T B C E) : WS (asgs (g :: hs) (d :: ds)) ρ N T B C E := s_sq h
theorem s_raise {A : Addr} {ns : List Str} {cd : List D → Bool} {fr : P (List D)} (h : W fr ρ (fun ds ρ' => ds.length = ns.length ∧ cd ds = true ∧ E (.ref A) ns.reverse ds.reverse ρ') E) : WS (raise' A ns cd fr) ρ N T B C E := s_sb (h.mono (fun ds ρ' h => by
  unfold WS rs
  rw [if_pos ⟨h.1, h.2.1⟩]
  exact h.2.2) fun _ _ _ _ h => h)
/-! ### loops -/
def FR (T' : Tg) (fb : S) (ds : List D) (ρ : En) (N : En → Prop) (T : R → En → Prop) (E : QE) : Prop := WS (frL T' fb ds) ρ N T (fun _ => False) (fun _ => False) E
theorem s_for {fi : P (List D)} {T' : Tg} {fb : S} (h : W fi ρ (fun ds ρ' => FR T' fb ds ρ' N T E) E) : WS (for' fi T' fb) ρ N T B C E := s_sb (h.mono (fun ds ρ' h => WS.mono h (fun _ h => h) (fun _ _ h => h) (fun _ h => h.elim) (fun _ h => h.elim) fun _ _ _ _ h => h) fun _ _ _ _ h => h)
theorem fr_nil {T' : Tg} {fb : S} (h : N ρ) : FR T' fb [] ρ N T E := by unfold FR WS; exact h
theorem fr_cons {T' : Tg} {fb : S} {d : D} {ds : List D} {ρ1 : En} (e : gset T' d ρ = some ρ1) (h : WS fb ρ1 (fun ρ2 => FR T' fb ds ρ2 N T E) T N (fun ρ2 => FR T' fb ds ρ2 N T E) E) : FR T' fb (d :: ds) ρ N T E := by
  unfold FR WS frL
  unfold WS at h
  rw [e]
  dsimp only
  split at h
  · exact h.elim
  · rename_i z; rw [z]; unfold FR WS at h; exact h
  · rename_i z; rw [z]; exact h
  · rename_i z; rw [z]; exact h
  · rename_i z; rw [z]; unfold FR WS at h; exact h
  · rename_i z; rw [z]; exact h
theorem fr_list' {β : Type} {T' : Tg} {fb : S} (f : β → D) (all : List β) (I : List β → En → Prop) (hs : ∀ dn x td ρ, all = dn ++ x :: td → I dn ρ → ∃ ρ1, gset T' (f x) ρ = some ρ1 ∧ WS fb ρ1 (I (dn ++ [x])) T N (I (dn ++ [x])) E) (hN : ∀ ρ, I all ρ → N ρ) :
    ∀ (xs dn : List β) {ρ : En}, all = dn ++ xs → I dn ρ → FR T' fb (xs.map f) ρ N T E
  | [], dn, _, e, h0 => fr_nil (hN _ (by rw [e, List.append_nil]; exact h0))
  | x :: xs, dn, ρ, e, h0 => by
    obtain ⟨ρ1, eg, h⟩ := hs dn x xs ρ e h0
    have go : ∀ ρ2, I (dn ++ [x]) ρ2 → FR T' fb (xs.map f) ρ2 N T E := fun ρ2 h2 => fr_list' f all I hs hN xs (dn ++ [x]) (by rw [e, List.append_assoc]; rfl) h2
    exact fr_cons eg (h.mono go (fun _ _ h => h) (fun _ h => h) go fun _ _ _ _ h => h)
/-- a loop by an invariant over what is done -/
theorem fr_list {β : Type} {T' : Tg} {fb : S} (f : β → D) (all : List β) (I : List β → En → Prop) (h0 : I [] ρ) (hs : ∀ dn x td ρ, all = dn ++ x :: td → I dn ρ → ∃ ρ1, gset T' (f x) ρ = some ρ1 ∧ WS fb ρ1 (I (dn ++ [x])) T N (I (dn ++ [x])) E) (hN : ∀ ρ, I all ρ → N ρ) : FR T' fb (all.map f) ρ N T E :=
  fr_list' f all I hs hN all [] rfl h0
end
end Pu
namespace Pu
open PySem PySem.Spec PyProof.Rows L2 Kv
/-- where a text's classes lie -/
structure Zf where
  K : PySem.W.Frag
  c_Hierarchy : Addr := 0
  c_NotFound : Addr := 0
  c_InvalidHierarchy : Addr := 0
  c_InvalidName : Addr := 0
  c_NameTaken : Addr := 0
  c_InvalidSuperclasses : Addr := 0
  c_TooMany : Addr := 0
  c_InUse : Addr := 0
  c_InvalidText : Addr := 0
  c_InvalidPoint : Addr := 0
  c_InvalidPoints : Addr := 0
  c_InvalidCount : Addr := 0
  c_MethodsError : Addr := 0
def gSub (i : Nat) (fi : P D) : D → S := fun d => gdO i (sb fi fun j => stIx i j d)
def gPut (i : Nat) (fi : P D) : D → S := fun d => gdO i (sb fi fun j => stPut i j d)
end Pu
namespace Fk
open PySem PySem.Spec PyProof.Rows L2 Kv Pu
def F__law_pot (z : Zf) : P R := fnP 3 []
    (sq (set' 2 (ifV (tst (op2 opLt (rd 1) (op1 lenD (pk 0)))) (vl (ixN' 0 (rd 1))) (vl (prt (.int 0)))))
    (ret (mkL (consA (opV maxI (consA (prt (.int 0)) (consA (op2 opSub (opV absI (consA (rd 2) (prt []))) (op2 opPow (prt (.int 10)) (prt (.int 18)))) (prt [])))) (consA (op2 opMod (op2 opAdd (op2 opAdd (op2 opMul (op2 opMod (opV absI (consA (rd 2) (prt []))) (prt (.int 2147483587))) (prt (.int 48271))) (op2 opMul (prt (.int 60013)) (pk 1))) (prt (.int 29))) (prt (.int 2147483647))) (prt []))))))
def F__law_draw (z : Zf) : P R := fnP 3 [0]
    (sq (iff (tst (op2 opGt (ixN' 0 (prt (.int 0))) (prt (.int 0)))) (sq (asg' (opV dvm (consA (ixN' 0 (prt (.int 0))) (consA (rd 1) (prt [])))) (gTup' [(gSub 0 (prt (.int 0))), (gName' 2)]))
    (ret (mv 2))) sk)
    (sq (asg' (op2 opMod (op2 opAdd (op2 opMul (ixN' 0 (prt (.int 1))) (prt (.int 39373))) (prt (.int 12227))) (prt (.int 2147483629))) (gSub 0 (prt (.int 1))))
    (ret (vl (op2 opMod (op2 opFdiv (op2 opMod (op2 opMul (ixN' 0 (prt (.int 1))) (ixN' 0 (prt (.int 1)))) (prt (.int 2147483563))) (prt (.int 13))) (pk 1))))))
noncomputable def F__law_name (z : Zf) : P R := fnP 3 [0]
    (sq (set' 1 (vl (prt (.str "abcdefghijklmnopqrstuvwxyz"))))
    (ret (vl (mts joinD (prt (.str "")) (consA (fz (lc (opL rng1 (op2 ixD (fz (mkL (consA (prt (.int 1)) (consA (prt (.int 2)) (consA (prt (.int 8)) (prt [])))))) (fz (calB 0 (F__law_draw z) 2 (consA (prt (.int 3)) (prt [])))))) (.one 2) (prt true) (ixN' 1 (fz (calB 0 (F__law_draw z) 2 (consA (prt (.int 26)) (prt []))))))) (prt []))))))
noncomputable def F__law_names (z : Zf) : P R := fnP 7 [0]
    (sq (set' 2 (mkL (prt [])))
    (sq (for' (opL rng1 (rd 1)) (.one 3) (sq (set' 4 (calB 0 (F__law_name z) 1 (prt [])))
    (sq (set' 5 (lc (opL strP (prt (.str "abcdefghijklmnopqrstuvwxyz"))) (.one 6) (tst (op2 opNotIn (rd 6) (pk 2))) (rd 6)))
    (expr (mtt 2 (consA (ifV (tst (op2 opIn (rd 4) (pk 2))) (ixN' 5 (prt (.int 0))) (rd 4)) (prt [])) stApp)))))
    (ret (mv 2))))
noncomputable def F__law_mixed (z : Zf) : P R := fnP 4 [0]
    (sq (set' 2 (opR listP (pk 1)))
    (ret (lc (opL rng1 (op1 lenD (pk 1))) (.one 3) (prt true) (mtt 2 (consA (fz (calB 0 (F__law_draw z) 2 (consA (op1 lenD (pk 2)) (prt [])))) (prt [])) stPop))))
noncomputable def F__law_kinds (z : Zf) : P R := fnP 6 [0]
    (sq (set' 2 (mkL (prt [])))
    (sq (for' (seqP (fz (calB 0 (F__law_names z) 2 (consA (op2 opAdd (prt (.int 1)) (fz (calB 0 (F__law_draw z) 2 (consA (rd 1) (prt []))))) (prt []))))) (.one 3) (sq (set' 4 (vl (op2 ixD (fz (mkL (consA (prt (.int 0)) (consA (prt (.int 1)) (consA (prt (.int 1)) (consA (prt (.int 2)) (consA (prt (.int 2)) (consA (prt (.int 3)) (prt []))))))))) (fz (calB 0 (F__law_draw z) 2 (consA (prt (.int 6)) (prt [])))))))
    (expr (mtt 2 (consA (mkT (consA (rd 3) (consA (op1 tupD (fz (slc (fz (calB 0 (F__law_mixed z) 2 (consA (fz (lc (seqP (pk 2)) (.one 5) (prt true) (ixN' 5 (prt (.int 0))))) (prt [])))) (prt none) (sOpt (rd 4))))) (prt [])))) (prt [])) stApp))))
    (ret (mv 2))))
def F__law_above (z : Zf) : P R := fnP 6 []
    (sq (set' 2 (mkL (consA (rd 1) (prt []))))
    (sq (for' (seqP (fz (opR revO (rd 0)))) (.many [3, 4]) (iff (tst (op2 opIn (rd 3) (pk 2))) (expr (mtt 2 (consA (fz (lc (seqP (rd 4)) (.one 5) (tst (op2 opNotIn (rd 5) (pk 2))) (rd 5))) (prt [])) stExt)) sk))
    (ret (mv 2))))
noncomputable def F__law_ups (z : Zf) : P R := fnP 2 []
    (ret (opR dictP (fz (lc (seqP (rd 0)) (.one 1) (prt true) (mkT (consA (ixN' 1 (prt (.int 0))) (consA (fz (cal (F__law_above z) 2 (consA (rd 0) (consA (ixN' 1 (prt (.int 0))) (prt []))))) (prt []))))))))
def F__law_due (z : Zf) : P R := fnP 5 []
    (sq (set' 2 (lc (opL keysD (rd 0)) (.one 3) (tst (op1 (allD fun bs => bs.all id) (fz (lc (seqP (rd 1)) (.one 4) (prt true) (op2 opIn (rd 4) (ixN' 0 (rd 3))))))) (rd 3)))
    (ret (lc (seqP (rd 2)) (.one 3) (tst (op2 opEq (fz (lc (seqP (rd 2)) (.one 4) (tst (op2 opIn (rd 4) (ixN' 0 (rd 3)))) (rd 4))) (fz (mkL (consA (rd 3) (prt [])))))) (rd 3))))
def F_Hierarchy_has_class (z : Zf) : P R := fnP 2 []
    (ret (vl (andV (op1 (isi "str") (pk 1)) (op2 opIn (rd 1) (op1 (fldD z.c_Hierarchy "places") (rd 0))))))
noncomputable def F_Hierarchy_require_class (z : Zf) : P R := fnP 2 []
    (iff (notB (tst (fz (met z.c_Hierarchy "has_class" (F_Hierarchy_has_class z) 2 (rd 0) (consA (rd 1) (prt [])))))) (raise' z.c_NotFound ["value"] (fun _ => true) (consA (rd 1) (prt []))) sk)
def F_Hierarchy_names (z : Zf) : P R := fnP 1 []
    (ret (opR listP (op1 (fldD z.c_Hierarchy "places") (rd 0))))
noncomputable def F_Hierarchy_highest_common (z : Zf) : P R := fnP 8 []
    (sq (set' 3 (mkL (consA (rd 1) (starA (rd 2) (prt [])))))
    (sq (for' (seqP (rd 3)) (.one 4) (expr (fz (met z.c_Hierarchy "require_class" (F_Hierarchy_require_class z) 2 (rd 0) (consA (rd 4) (prt []))))))
    (sq (set' 5 (mkL (prt [])))
    (sq (for' (seqP (fz (met0 z.c_Hierarchy "names" (F_Hierarchy_names z) 1 (rd 0)))) (.one 4) (sq (set' 6 (vl (op1 (allD fun bs => bs.all id) (fz (lc (seqP (rd 3)) (.one 7) (prt true) (op2 opIn (rd 7) (op2 ixD (op1 (fldD z.c_Hierarchy "above") (rd 0)) (rd 4))))))))
    (iff (andB (tst (rd 6)) (notB (tst (op1 (allD fun bs => bs.any id) (fz (lc (seqP (pk 5)) (.one 7) (prt true) (op2 opIn (rd 7) (op2 ixD (op1 (fldD z.c_Hierarchy "above") (rd 0)) (rd 4))))))))) (expr (mtt 5 (consA (rd 4) (prt [])) stApp)) sk)))
    (ret (mv 5))))))
noncomputable def F__law_told (z : Zf) : P R := fnP 2 []
    (sq (iff (tst (op2 opEq (op1 lenD (pk 1)) (prt (.int 1)))) (ret (metS z.c_Hierarchy "highest_common" (F_Hierarchy_highest_common z) 2 (rd 0) (consA (ixN' 1 (prt (.int 0))) (prt [])))) sk)
    (sq (iff (tst (op2 opEq (op1 lenD (pk 1)) (prt (.int 2)))) (ret (metS z.c_Hierarchy "highest_common" (F_Hierarchy_highest_common z) 2 (rd 0) (consA (ixN' 1 (prt (.int 0))) (consA (ixN' 1 (prt (.int 1))) (prt []))))) sk)
    (sq (iff (tst (op2 opEq (op1 lenD (pk 1)) (prt (.int 3)))) (ret (metS z.c_Hierarchy "highest_common" (F_Hierarchy_highest_common z) 2 (rd 0) (consA (ixN' 1 (prt (.int 0))) (consA (ixN' 1 (prt (.int 1))) (consA (ixN' 1 (prt (.int 2))) (prt [])))))) sk)
    (sq (iff (tst (op2 opEq (op1 lenD (pk 1)) (prt (.int 4)))) (ret (metS z.c_Hierarchy "highest_common" (F_Hierarchy_highest_common z) 2 (rd 0) (consA (ixN' 1 (prt (.int 0))) (consA (ixN' 1 (prt (.int 1))) (consA (ixN' 1 (prt (.int 2))) (consA (ixN' 1 (prt (.int 3))) (prt []))))))) sk)
    (sq (iff (tst (op2 opEq (op1 lenD (pk 1)) (prt (.int 5)))) (ret (metS z.c_Hierarchy "highest_common" (F_Hierarchy_highest_common z) 2 (rd 0) (consA (ixN' 1 (prt (.int 0))) (consA (ixN' 1 (prt (.int 1))) (consA (ixN' 1 (prt (.int 2))) (consA (ixN' 1 (prt (.int 3))) (consA (ixN' 1 (prt (.int 4))) (prt [])))))))) sk)
    (ret (metS z.c_Hierarchy "highest_common" (F_Hierarchy_highest_common z) 2 (rd 0) (consA (ixN' 1 (prt (.int 0))) (consA (ixN' 1 (prt (.int 1))) (consA (ixN' 1 (prt (.int 2))) (consA (ixN' 1 (prt (.int 3))) (consA (ixN' 1 (prt (.int 4))) (consA (ixN' 1 (prt (.int 5))) (prt []))))))))))))))
noncomputable def F__law_missing (z : Zf) : P R := fnP 4 []
    (sq (set' 2 (vl (prt .non)))
    (sq (tryS z.K (.ref z.c_NotFound) 3 (expr (fz (cal (F__law_told z) 2 (consA (rd 0) (consA (rd 1) (prt [])))))) (fun xa xd xc => (set' 2 (vl (op1 shD (op1 (exf xa xd xc z.c_NotFound "value") (rd 3)))))))
    (ret (mv 2))))
noncomputable def F__law_missing_right (z : Zf) : P R := fnP 10 [0]
    (sq (set' 3 (mkL (consA (prt .non) (consA (prt (.int 0)) (consA (prt (.bl true)) (consA (prt (.str "")) (consA (prt (.str "abc")) (consA (mts upD (ixN' 2 (prt (.int 0))) (prt [])) (consA (fz (mkL (consA (ixN' 2 (prt (.int 0))) (prt [])))) (consA (mkT (consA (ixN' 2 (prt (.int 0))) (prt []))) (consA (fz (prt (.own (.dic [] [])))) (consA (mkT (prt [])) (prt [])))))))))))))
    (sq (set' 4 (lc (opL rng1 (op2 opAdd (prt (.int 1)) (fz (calB 0 (F__law_draw z) 2 (consA (prt (.int 6)) (prt [])))))) (.one 8) (prt true) (ixN' 2 (fz (calB 0 (F__law_draw z) 2 (consA (op1 lenD (pk 2)) (prt [])))))))
    (sq (par' 5 6 (consA (ixN' 3 (fz (calB 0 (F__law_draw z) 2 (consA (op1 lenD (pk 3)) (prt []))))) (consA (fz (calB 0 (F__law_draw z) 2 (consA (op1 lenD (pk 4)) (prt [])))) (prt []))))
    (sq (set' 7 (lc (seqP (fz (slc (rd 4) (sOpt (op2 opAdd (rd 6) (prt (.int 1)))) (prt none)))) (.one 9) (prt true) (ifV (tst (op2 opEq (fz (calB 0 (F__law_draw z) 2 (consA (prt (.int 2)) (prt [])))) (prt (.int 0)))) (rd 9) (ixN' 3 (fz (calB 0 (F__law_draw z) 2 (consA (op1 lenD (pk 3)) (prt []))))))))
    (ret (vl (op2 opEq (fz (cal (F__law_missing z) 2 (consA (rd 1) (consA (op2 opAdd (op2 opAdd (fz (slc (rd 4) (prt none) (sOpt (rd 6)))) (fz (mkL (consA (rd 5) (prt []))))) (pk 7)) (prt []))))) (op1 shD (pk 5)))))))))
noncomputable def F__law_row_right (z : Zf) : P R := fnP 6 [0]
    (sq (set' 4 (vl (op1 shD (fz (cal (F__law_due z) 2 (consA (rd 2) (consA (rd 3) (prt []))))))))
    (sq (set' 5 (cal (F__law_told z) 2 (consA (rd 1) (consA (rd 3) (prt [])))))
    (sq (iff (tst (op2 opNe (op1 shD (pk 5)) (pk 4))) (ret (vl (prt (.bl false)))) sk)
    (sq (expr (mtt 5 (prt []) stRev))
    (sq (expr (mtt 5 (consA (prt .non) (prt [])) stApp))
    (ret (vl (andV (op2 opEq (op1 shD (fz (cal (F__law_told z) 2 (consA (rd 1) (consA (fz (calB 0 (F__law_mixed z) 2 (consA (rd 3) (prt [])))) (prt [])))))) (pk 4)) (op2 opEq (op1 shD (fz (cal (F__law_told z) 2 (consA (rd 1) (consA (fz (slc (op2 opAdd (rd 3) (pk 3)) (prt none) (sOpt (prt (.int 6))))) (prt [])))))) (pk 4))))))))))
noncomputable def F_law (z : Zf) : P R := fnP 14 []
    (sq (for' (opL rng1 (opV maxI (consA (prt (.int 1)) (consA (opV minI (consA (op1 lenD (pk 0)) (consA (prt (.int 4)) (prt [])))) (prt []))))) (.one 1) (sq (set' 2 (cal (F__law_pot z) 2 (consA (rd 0) (consA (rd 1) (prt [])))))
    (sq (set' 3 (calB 2 (F__law_kinds z) 2 (consA (prt (.int 12)) (prt []))))
    (sq (unp' (.many [4, 5, 6]) (mkT (consA (fz (opR (mkH z.c_Hierarchy) (rd 3))) (consA (fz (cal (F__law_ups z) 1 (consA (rd 3) (prt [])))) (consA (fz (lc (seqP (rd 3)) (.one 11) (prt true) (ixN' 11 (prt (.int 0))))) (prt []))))))
    (sq (for' (seqP (rd 6)) (.one 7) (sq (set' 9 (lc (seqP (rd 6)) (.one 12) (prt true) (fz (cal (F__law_due z) 2 (consA (rd 5) (consA (fz (mkL (consA (rd 7) (consA (rd 12) (prt []))))) (prt [])))))))
    (iff (tst (op2 opNe (op1 shD (fz (lc (seqP (rd 6)) (.one 12) (prt true) (fz (metS z.c_Hierarchy "highest_common" (F_Hierarchy_highest_common z) 2 (rd 4) (consA (rd 7) (consA (rd 12) (prt [])))))))) (op1 shD (pk 9)))) (ret (vl (prt (.bl false)))) sk)))
    (for' (opL rng1 (prt (.int 6))) (.one 8) (sq (set' 10 (lc (opL rng1 (op2 opAdd (prt (.int 1)) (fz (calB 2 (F__law_draw z) 2 (consA (prt (.int 6)) (prt [])))))) (.one 13) (prt true) (ixN' 6 (fz (calB 2 (F__law_draw z) 2 (consA (op1 lenD (pk 6)) (prt [])))))))
    (iff (orB (notB (tst (fz (calB 2 (F__law_row_right z) 4 (consA (rd 4) (consA (rd 5) (consA (rd 10) (prt [])))))))) (notB (tst (fz (calB 2 (F__law_missing_right z) 3 (consA (rd 4) (consA (rd 6) (prt [])))))))) (ret (vl (prt (.bl false)))) sk))))))))
    (ret (vl (prt (.bl true)))))
end Fk
namespace Lw
open PySem PySem.Spec PyProof.Rows L2 Kv
def topS (i : Nat) : Stmt := PySem.Challenge.pw_fewestmethods_k15_whole_highest_common_s.main.body.getD i (.Pass ⟨0, 0, 0, 0⟩)
abbrev c_MethodsError : Stmt := topS 2
abbrev i_MethodsError : Stmt := inClass c_MethodsError 0
abbrev c_InvalidHierarchy : Stmt := topS 3
abbrev i_InvalidHierarchy : Stmt := inClass c_InvalidHierarchy 0
abbrev c_InvalidText : Stmt := topS 4
abbrev i_InvalidText : Stmt := inClass c_InvalidText 0
abbrev c_NotFound : Stmt := topS 5
abbrev i_NotFound : Stmt := inClass c_NotFound 0
abbrev sIsName : Stmt := topS 9
abbrev sAre : Stmt := topS 12
abbrev sProb : Stmt := topS 13
abbrev sAnc : Stmt := topS 14
abbrev sWrite : Stmt := topS 15
abbrev sRead : Stmt := topS 16
abbrev cHier : Stmt := topS 17
abbrev m_init : Stmt := inClass cHier 1
abbrev m_read : Stmt := inClass cHier 2
abbrev m_of : Stmt := inClass cHier 3
abbrev m_eq : Stmt := inClass cHier 4
abbrev m_len : Stmt := inClass cHier 5
abbrev m_repr : Stmt := inClass cHier 6
abbrev m_str : Stmt := inClass cHier 7
abbrev m_names : Stmt := inClass cHier 8
abbrev m_has_class : Stmt := inClass cHier 9
abbrev m_superclasses : Stmt := inClass cHier 10
abbrev m_position_of : Stmt := inClass cHier 11
abbrev m_require_class : Stmt := inClass cHier 12
abbrev m_is_at_or_below : Stmt := inClass cHier 13
abbrev m_ancestors : Stmt := inClass cHier 14
abbrev m_descendants : Stmt := inClass cHier 15
abbrev m_highest_common : Stmt := inClass cHier 16
abbrev m_with_class : Stmt := inClass cHier 17
abbrev m_without_class : Stmt := inClass cHier 18
abbrev sPot : Stmt := topS 19
abbrev sDraw : Stmt := topS 20
abbrev sMixed : Stmt := topS 21
abbrev sName : Stmt := topS 22
abbrev sNames : Stmt := topS 23
abbrev sKinds : Stmt := topS 24
abbrev sAbove : Stmt := topS 25
abbrev sUps : Stmt := topS 26
abbrev sLDue : Stmt := topS 27
abbrev sTold : Stmt := topS 28
abbrev sRR : Stmt := topS 29
abbrev sMissing : Stmt := topS 30
abbrev sMissR : Stmt := topS 31
abbrev sLaw : Stmt := topS 32
end Lw
namespace Lw
open PySem PySem.Spec PyProof.Rows L2 Kv
theorem scPot : FnScope ["_law_script", "_law_k", "_law_cell"] ["_law_script", "_law_k"] (defScope sPot) :=
  ⟨rfl, rfl, rfl, by decide +kernel, rfl, by decide +kernel, by decide +kernel⟩
theorem scDraw : FnScope ["_law_pot_here", "_law_many", "_law_digit"] ["_law_pot_here", "_law_many"] (defScope sDraw) :=
  ⟨rfl, rfl, rfl, by decide +kernel, rfl, by decide +kernel, by decide +kernel⟩
section
variable {P : Program} {w : World} {K : PySem.W.Frag} {mg : Str → Option Value} {base : Heap}
def spPot (K : PySem.W.Frag) : Sp := fun vs H Q _ => ∃ (a : Addr) (ns : List Int) (j : Nat),
  vs = [.ref a, .int j] ∧ SqL K H a (ns.map V.int) ∧ j ≤ 1000 ∧
  ∀ p H', Same H H' → H p = none → PotAt H' p → Q (.ref p) H'
theorem ok_pot {f : Addr} {fd : FuncData} {k : Nat} (F : Fun K "_law_pot" "_law_pot" sPot f fd)
    (ml : mg "len" = none) (mm : mg "max" = none) (ma : mg "abs" = none) :
    FnOk P w K mg base CX0 (k + 1) f fd ["_law_script", "_law_k"] (spPot K) := by
  refine F.ok scPot (fun vs H Q E h => ?_) (fun cdv A outer s H vs Q E hr h => ?_)
  · obtain ⟨a, ns, j, rfl, _⟩ := h
    rfl
  · obtain ⟨a, ns, j, rfl, hS, hj, q⟩ := h
    refine ⟨_, pss_cons (ps_set (i := 2) scPot.nd rfl (.inl rfl)
        (pe_ifExp (pt_cmpR op_lt (pv 1) (pe_callB call_len_seq (by rfl) ml PySem.boot_len (pa_cons (pv 0) pa_nil)) (nomark _))
          (pe_ix ix_list (pv 0) (pv 1) (fun _ _ => rfl)) pe_int))
      (pss_one (ps_ret (pe_lst (pa_cons
        (pe_callB (call_max2 rfl) (by rfl) mm (by decide +kernel) (pa_cons pe_int (pa_cons
          (pe_op op_sub (pe_callB call_abs (by rfl) ma (by decide +kernel) (pa_cons (pv 2) pa_nil)) (pe_op op_pow pe_int pe_int)) pa_nil)))
        (pa_cons (pe_op op_mod (pe_op op_add (pe_op op_add (pe_op op_mul (pe_op op_mod (pe_callB call_abs (by rfl) ma (by decide +kernel) (pa_cons (pv 2) pa_nil)) pe_int) pe_int)
          (pe_op op_mul pe_int (pv 1))) pe_int) pe_int) pa_nil))))), ?_⟩
    refine ⟨.int j, rfl, .ref a, rfl, a, _, rfl, .inl hS, _, _, rfl, rfl, _, rfl, ite2 (fun e => ?_) (fun e => ?_)⟩
    · have e1 : (j : Int) < ((ns.map V.int).length : Int) := of_decide_eq_true e
      have e2 : j < ns.length := by
        rw [List.length_map] at e1
        omega
      refine ⟨.ref a, rfl, .int j, rfl, a, _, j, .int ns[j], rfl, rfl, hS, atI_nat (j := j) (by
        rw [List.getElem?_map, List.getElem?_eq_getElem e2]
        rfl), ?_⟩
      generalize ns[j] = c
      have b1 : 0 ≤ (if c < 0 then -c else c) % 2147483587 := Int.emod_nonneg _ (by decide)
      have b2 : (if c < 0 then -c else c) % 2147483587 < 2147483587 := Int.emod_lt_of_pos _ (by decide)
      refine ⟨.int c, rfl, c, rfl, 10, 18, rfl, rfl, ⟨by decide, by decide, by decide⟩, _, _, rfl, rfl, _, _, rfl,
        .int c, rfl, c, rfl, _, _, rfl, rfl, (by decide : (0 : Int) < 2147483587), _, _, rfl, rfl, .inl ⟨?_, ?_⟩,
        .int j, rfl, _, _, rfl, rfl, .inl ⟨by decide, by decide⟩, _, _, rfl, rfl, _, _, rfl, rfl, _, _, rfl, rfl, (by decide : (0 : Int) < 2147483647),
        (by decide : 2 ≤ sizeLine), fun p np => ?_⟩
      · omega
      · omega
      · exact q p _ (same_new np) np ⟨_, _, upd_same, by split <;> omega, Int.emod_nonneg _ (by decide), Int.emod_lt_of_pos _ (by decide)⟩
    · have b1 : 0 ≤ (if (0 : Int) < 0 then -0 else 0) % 2147483587 := Int.emod_nonneg _ (by decide)
      have b2 : (if (0 : Int) < 0 then -0 else 0) % 2147483587 < 2147483587 := Int.emod_lt_of_pos _ (by decide)
      refine ⟨.int 0, rfl, 0, rfl, 10, 18, rfl, rfl, ⟨by decide, by decide, by decide⟩, _, _, rfl, rfl, _, _, rfl,
        .int 0, rfl, 0, rfl, _, _, rfl, rfl, (by decide : (0 : Int) < 2147483587), _, _, rfl, rfl, .inl ⟨?_, ?_⟩,
        .int j, rfl, _, _, rfl, rfl, .inl ⟨by decide, by decide⟩, _, _, rfl, rfl, _, _, rfl, rfl, _, _, rfl, rfl, (by decide : (0 : Int) < 2147483647),
        (by decide : 2 ≤ sizeLine), fun p np => ?_⟩
      · omega
      · omega
      · exact q p _ (same_new np) np ⟨_, _, upd_same, by split <;> omega, Int.emod_nonneg _ (by decide), Int.emod_lt_of_pos _ (by decide)⟩
end
section
variable {P : Program} {w : World} {K : PySem.W.Frag} {mg : Str → Option Value} {base : Heap}
def spDraw : Sp := fun vs H Q _ => ∃ (p : Addr) (m : Int), vs = [.ref p, .int m] ∧ PotAt H p ∧ 0 < m ∧ m ≤ 10 ^ 60 ∧
  ∀ H' (d : Int), 0 ≤ d → d < m → PotAt H' p → But p H H' → Q (.int d) H'
theorem ok_draw {f : Addr} {fd : FuncData} {k : Nat} (F : Fun K "_law_draw" "_law_draw" sDraw f fd)
    (md : mg "divmod" = none) : FnOk P w K mg base CX0 (k + 1) f fd ["_law_pot_here", "_law_many"] spDraw := by
  refine F.ok scDraw (fun vs H Q E h => ?_) (fun cdv A outer s H vs Q E hr h => ?_)
  · obtain ⟨a, m, rfl, _⟩ := h
    rfl
  · obtain ⟨a, m, rfl, ⟨r, g, hp, r0, g0, g1⟩, m0, m1, q⟩ := h
    refine ⟨_, pss_cons (ps_if (pt_cmpR op_gt (pe_ix ix_list (pv 0) pe_int (fun _ _ => rfl)) pe_int (nomark _))
        (pss_cons (ps_asg (pe_callB call_divmodW (by rfl) md (by decide +kernel) (pa_cons (pe_ix ix_list (pv 0) pe_int (fun _ _ => rfl)) (pa_cons (pv 1) pa_nil)))
            (pg_tup (by rfl) (pgs_cons (pg_sub (pv 0) pe_int set_list) (pgs_cons (pg_name (i := 2) scDraw.nd rfl (.inl rfl)) pgs_nil))))
          (pss_one (ps_ret (pv 2)))) pss_nil)
      (pss_cons (ps_asg (pe_op op_mod (pe_op op_add (pe_op op_mul (pe_ix ix_list (pv 0) pe_int (fun _ _ => rfl)) pe_int) pe_int) pe_int) (pg_sub (pv 0) pe_int set_list))
      (pss_one (ps_ret (pe_op op_mod (pe_op op_fdiv (pe_op op_mod (pe_op op_mul (pe_ix ix_list (pv 0) pe_int (fun _ _ => rfl)) (pe_ix ix_list (pv 0) pe_int (fun _ _ => rfl))) pe_int) pe_int) (pv 1))))), ?_⟩
    have hS : SqL K H a [.int r, .int g] := .inl (.inl hp)
    refine ⟨.ref a, rfl, a, _, 0, .int r, rfl, rfl, hS, rfl, _, _, rfl, rfl, _, rfl, ite2 (fun e => ?_) (fun e => ?_)⟩
    · have e1 : r > 0 := of_decide_eq_true e
      refine ⟨.ref a, rfl, a, _, 0, .int r, rfl, rfl, hS, rfl, .int m, rfl, _, _, rfl, divp_small m0 ?_, fun t nt => ?_⟩
      · have : m.natAbs ≤ 10 ^ 60 := by omega
        exact Nat.lt_of_le_of_lt this (Nat.lt_of_lt_of_le (by decide : 10 ^ 60 < 2 ^ 200) (Nat.pow_le_pow_right (by decide) (by decide)))
      · have nta : a ≠ t := ne_of_none hp nt
        refine ⟨t, _, rfl, .inl (.inl upd_same), rfl, _, _, rfl, .ref a, rfl, a, _, 0, 0, rfl, rfl, (by rw [upd_ne nta]; exact hp), rfl, _, _, rfl, rfl, _, rfl, ?_⟩
        refine q _ _ (Int.emod_nonneg _ (by omega)) (Int.emod_lt_of_pos _ m0) ⟨_, _, upd_same, Int.ediv_nonneg r0 (by omega), g0, g1⟩ ?_
        intro b o nb hb
        rw [upd_ne nb, upd_ne (ne_of_none hb nt)]
        exact hb
    · refine ⟨.ref a, rfl, a, _, 1, .int g, rfl, rfl, hS, rfl, _, _, rfl, rfl, .inl ⟨by omega, by omega⟩, _, _, rfl, rfl, _, _, rfl, rfl, (by decide : (0 : Int) < 2147483629),
        .ref a, rfl, a, _, 1, 1, rfl, rfl, hp, rfl, ?_⟩
      have b0 : 0 ≤ ((g * 39373 + 12227) % 2147483629) := Int.emod_nonneg _ (by decide)
      have b1 : ((g * 39373 + 12227) % 2147483629) < 2147483629 := Int.emod_lt_of_pos _ (by decide)
      have hS2 : SqL K (upd H a (.lst [.int r, .int ((g * 39373 + 12227) % 2147483629)])) a [.int r, .int ((g * 39373 + 12227) % 2147483629)] := .inl (.inl upd_same)
      refine ⟨.ref a, rfl, a, _, 1, .int ((g * 39373 + 12227) % 2147483629), rfl, rfl, hS2, rfl, .ref a, rfl, a, _, 1, .int ((g * 39373 + 12227) % 2147483629), rfl, rfl, hS2, rfl, _, _, rfl, rfl, .inl ⟨by omega, by omega⟩,
        _, _, rfl, rfl, (by decide : (0 : Int) < 2147483563), _, _, rfl, rfl, ⟨by decide, by decide⟩, .int m, rfl, _, _, rfl, rfl, m0, ?_⟩
      refine q _ _ (Int.emod_nonneg _ (by omega)) (Int.emod_lt_of_pos _ m0) ⟨_, _, upd_same, r0, b0, by omega⟩ ?_
      intro b o nb hb
      rw [upd_ne nb]
      exact hb
end
end Lw
namespace Lw
open PySem PySem.Spec PyProof.Rows L2 Kv
theorem scIsName : FnScope ["value", "letter"] ["value"] (defScope sIsName) :=
  ⟨rfl, rfl, rfl, by decide +kernel, rfl, by decide +kernel, by decide +kernel⟩
section
variable {P : Program} {w : World} {K : PySem.W.Frag} {mg : Str → Option Value} {base : Heap}
def spName (K : PySem.W.Frag) : Sp := fun vs H Q _ => ∃ v : V, vs = [v] ∧ Good K H v ∧ ∀ H', Same H H' → Q (.bl (nameV v)) H'
theorem ok_isname {f : Addr} {fd : FuncData} {k : Nat} {t1 t2 : Tok} (F : Fun K "is_name" "is_name" sIsName f fd)
    (mi : mg "isinstance" = none) (ms : mg "str" = none) (ml : mg "len" = none) (ma : mg "all" = none)
    (g1 : mg "LETTERS" = some (.str "abcdefghijklmnopqrstuvwxyz" t1)) (g2 : mg "LONGEST_NAME" = some (.int 8 t2)) :
    FnOk P w K mg base CX0 (k + 1) f fd ["value"] (spName K) := by
  refine F.ok scIsName (fun vs H Q E h => ?_) (fun cdv A outer s H vs Q E hr h => ?_)
  · obtain ⟨a, rfl, _⟩ := h
    rfl
  · obtain ⟨v, rfl, ⟨nd, d, sh, hf, hv⟩, q⟩ := h
    refine ⟨_, pss_cons (ps_if (pt_not (pt_val (pe_callB call_isi (by rfl) mi (by decide +kernel) (pa_cons (pv 0)
          (pa_cons (pe_bltn (v := .ty "str") (by rfl) ms (by decide +kernel : bootBuiltins "str" = some (.type "str")) rfl) pa_nil))))) (pss_one (ps_ret pe_bl)) pss_nil)
      (pss_one (ps_ret (pe_and (pe_chain op_le op_le pe_int (pe_callB call_len_str (by rfl) ml PySem.boot_len (pa_cons (pv 0) pa_nil)) (pe_glob (v := .int 8) (by rfl) g2 ⟨_, rfl⟩))
        (pe_one (pe_callB (cr_all rfl) (by rfl) ma (by decide +kernel) (pa_cons
          (pe_lc (own := [("letter", 1)]) (g := gName 1) (tt := tYes) rfl scIsName.nd (pi_str (pv 0))
            (blkOk_by (own := [("letter", 1)]) (N := ["value", "letter"]) (sc := defScope sIsName) (by decide +kernel))
            (fun _ _ _ _ _ => pg_name (i := 1) scIsName.nd rfl (Or.inl rfl)) (fun _ _ _ _ _ => pts_nil)
            (fun _ _ _ _ _ => pe_cmpR op_in_sign (pv 1) (pe_glob (v := .str "abcdefghijklmnopqrstuvwxyz") (by rfl) g1 ⟨_, rfl⟩) rfl)) pa_nil)))))), ?_⟩
    obtain ⟨T, ty, hT⟩ := sh.ty
    rcases hT with ⟨x, rfl, rfl⟩ | ⟨hne, hT⟩
    · have hx := hv x rfl
      have hxl : x.length ≤ sizeLine := szle (Nat.le_trans hx.1 (by decide))
      refine ⟨.str x, rfl, .str x, .ty "str", _, _, true, rfl, .ty "str", ty, kit_ty (by decide +kernel), true, rfl, iteF ?_⟩
      refine ⟨.str x, rfl, x, rfl, hxl, _, _, rfl, rfl, _, rfl, ite2 (fun e => ?_) (fun e => ?_)⟩
      · have e1 : (1 : Int) ≤ x.length := of_decide_eq_true e
        refine ⟨_, _, rfl, rfl, _, rfl, ite2 (fun e2 => ?_) (fun e2 => ?_)⟩
        · have e3 : (x.length : Int) ≤ 8 := of_decide_eq_true e2
          refine ⟨.str x, rfl, x, rfl, fun D nD => ?_⟩
          refine lc_it walk_str (fun i H3 => H3 = upd H D (.lst ((x.cps.toList.take i).map fun c => .bl (inAz c)))) ?_ (fun _ _ _ _ => trivial) (fun i y H3 H4 hi hP hY => ?_) (fun H3 hP => ?_)
          · rfl
          · obtain ⟨rfl, c, hc, rfl⟩ := hY
            subst hP
            refine ⟨rfl, .str ⟨#[c]⟩, rfl, c, _, rfl, rfl, _, upd_same, ?_, ?_⟩
            · rw [List.length_map, List.length_take]
              exact sz1 (by
                have : i < x.length := hi
                omega)
            · have hc2 : x.cps.toList[i]? = some c := by
                rw [Array.getElem?_toList]
                exact hc
              rw [upd_upd, List.take_add_one, hc2, List.map_append]
              rfl
          · subst hP
            refine ⟨D, (x.cps.toList.take x.cps.size).map inAz, rfl, .inl (.inl ?_), ?_⟩
            · rw [upd_same, List.map_map]
              rfl
            · have e4 : x.cps.toList.take x.cps.size = x.cps.toList := List.take_of_length_le (by rw [Array.length_toList]; exact Nat.le_refl _)
              have e5 : ((x.cps.toList.take x.cps.size).map inAz).all id = nameV (.str x) := by
                rw [e4, List.all_map]
                show _ = ((decide (1 ≤ x.length) && decide (x.length ≤ 8)) && x.cps.toList.all inAz)
                rw [decide_eq_true (by omega : 1 ≤ x.length), decide_eq_true (by omega : x.length ≤ 8)]
                rfl
              rw [e5]
              exact q _ (same_new nD)
        · have e3 : ¬ (x.length : Int) ≤ 8 := fun z => e2 (decide_eq_true z)
          have e5 : nameV (.str x) = false := by
            show ((decide (1 ≤ x.length) && decide (x.length ≤ 8)) && x.cps.toList.all inAz) = false
            rw [decide_eq_false (by omega : ¬ x.length ≤ 8), Bool.and_false, Bool.false_and]
          have := q H (Same.refl _)
          rw [e5] at this
          exact this
      · have e1 : ¬ (1 : Int) ≤ x.length := fun z => e (decide_eq_true z)
        have e5 : nameV (.str x) = false := by
          show ((decide (1 ≤ x.length) && decide (x.length ≤ 8)) && x.cps.toList.all inAz) = false
          rw [decide_eq_false (by omega : ¬ 1 ≤ x.length), Bool.false_and, Bool.false_and]
        have := q H (Same.refl _)
        rw [e5] at this
        exact ⟨false, rfl, iteF this⟩
    · have hk : kitB T "str" = some false := by
        rcases hT with rfl | rfl | rfl | rfl | rfl | rfl <;> decide +kernel
      have := q H (Same.refl _)
      rw [nameV_not hne] at this
      exact ⟨v, rfl, v, .ty "str", _, _, false, rfl, .ty "str", ty, kit_ty hk, false, rfl, iteT this⟩
end
end Lw
namespace Lw
open PySem PySem.Spec PyProof.Rows L2 Kv
theorem perm_erase {α : Type} : ∀ (l : List α) (i : Nat) (x : α), l[i]? = some x → (x :: l.eraseIdx i).Perm l
  | [], i, x, h => by simp at h
  | y :: r, 0, x, h => by
    have e : y = x := by simpa using h
    subst e
    exact List.Perm.refl _
  | y :: r, i + 1, x, h => by
    have ih := perm_erase r i x (by simpa using h)
    exact (List.Perm.swap y x (r.eraseIdx i)).trans (ih.cons y)
theorem len_erase {α : Type} {l : List α} {i : Nat} {x : α} (h : l[i]? = some x) : (l.eraseIdx i).length + 1 = l.length :=
  (perm_erase l i x h).length_eq
theorem seqIx {d : Int} {n : Nat} (h0 : 0 ≤ d) (h1 : d < n) : seqIndex? d n = some d.toNat := by
  unfold seqIndex?
  simp only [show ¬ d < 0 by omega, if_false]
  simp [h0, h1]
/-- one letter each -/
theorem join_az : ∀ ys : List Str, (∀ y ∈ ys, ∃ c, c ∈ az ∧ y = ⟨#[c]⟩) →
    (Txt.join "" ys).length = ys.length ∧ ∀ c ∈ (Txt.join "" ys).cps.toList, c ∈ az := by
  intro ys hy
  have e : (Txt.join "" ys).cps.toList = (ys.map TL.tl).flatten := by
    rw [TL.join_eq]
    show TL.tl (Str.join _ _) = _
    rw [TL.tl_join]
    exact joinL_nil _
  refine ⟨?_, fun c hc => ?_⟩
  · rw [Kv.len_list, e]
    clear e
    induction ys with
    | nil => rfl
    | cons y r ih =>
      obtain ⟨c, _, h1⟩ := hy y (List.mem_cons_self ..)
      have h2 := ih fun z hz => hy z (List.mem_cons_of_mem _ hz)
      simp only [List.map_cons, List.flatten_cons, List.length_append, List.length_cons, h2]
      have h3 : (TL.tl y).length = 1 := by
        rw [h1]
        rfl
      omega
  · rw [e] at hc
    obtain ⟨l, hl, hcl⟩ := List.mem_flatten.mp hc
    obtain ⟨y, hm, rfl⟩ := List.mem_map.mp hl
    obtain ⟨d, hd, rfl⟩ := hy y hm
    have : c = d := by simpa [TL.tl] using hcl
    rw [this]
    exact hd
theorem name_sm {x : Str} (h : nameV (.str x) = true) : Sm 8 x := by
  have h1 : ((decide (1 ≤ x.length) && decide (x.length ≤ 8)) && x.cps.toList.all inAz) = true := h
  simp only [Bool.and_eq_true, decide_eq_true_eq, List.all_eq_true] at h1
  refine ⟨h1.1.2, fun c hc => ?_⟩
  have h2 := of_decide_eq_true (h1.2 c hc)
  have : ∀ z ∈ az, z < 128 := by decide +kernel
  exact this c h2
section
variable {P : Program} {w : World} {K : PySem.W.Frag} {mg : Str → Option Value} {base : Heap}
/-- what len of a list or tuple asks -/
def rLenS (K : PySem.W.Frag) : List V → Hp → VK → Prop := fun xs H Q => ∃ p ys, xs = [.ref p] ∧ (SqL K H p ys ∨ SqT K H p ys) ∧ Q (.int ys.length) H
theorem scMixed : FnScope ["_law_pot_here", "_law_some", "_law_left", "_law_turn"] ["_law_pot_here", "_law_some"] (defScope sMixed) :=
  ⟨rfl, rfl, rfl, by decide +kernel, rfl, by decide +kernel, by decide +kernel⟩
def spMixed (K : PySem.W.Frag) : Sp := fun vs H Q _ => ∃ (p b : Addr) (xs : List V), vs = [.ref p, .ref b] ∧ PotAt H p ∧ SqL K H b xs ∧ xs.length ≤ 100 ∧
  ∀ H' D (ys : List V), PotAt H' p → But p H H' → H D = none → D ≠ p → H' D = some (.lst ys) → ys.Perm xs → Q (.ref D) H'
theorem ok_mixed {f fD : Addr} {fd fdD : FuncData} {k : Nat} (F : Fun K "_law_mixed" "_law_mixed" sMixed f fd)
    (FD : Fun K "_law_draw" "_law_draw" sDraw fD fdD) (bD : Binds K fdD ["_law_pot_here", "_law_many"] [])
    (gD : mg "_law_draw" = some (.ref fD)) (md : mg "divmod" = none) (mr : mg "range" = none) (ml : mg "len" = none) (mL : mg "list" = none) :
    FnOk P w K mg base CX0 (k + 2) f fd ["_law_pot_here", "_law_some"] (spMixed K) := by
  have GD : FnOk P w K mg base CX0 (k + 1) fD fdD ["_law_pot_here", "_law_many"] spDraw := ok_draw FD md
  refine F.ok scMixed (fun vs H Q E h => ?_) (fun cdv A outer s H vs Q E hr h => ?_)
  · obtain ⟨a, b, xs, rfl, _⟩ := h
    rfl
  · obtain ⟨p, b, xs, rfl, hp, hb, hx, q⟩ := h
    refine ⟨_, pss_cons (ps_set (i := 2) scMixed.nd rfl (.inr rfl) (pe_callTy call_list_of (by rfl) mL (by decide +kernel) (pa_cons (pv 1) pa_nil)))
      (pss_one (ps_ret (pe_lc (own := [("_law_turn", 3)]) (g := gName 3) (tt := tYes)
        (te := tBM K "list" rPopAt (tVar 2) (tCons (tCall spDraw [] E0 (tCons (tVar 0) (tCons (tCB (rLenS K) (tCons (tVar 2) tNil)) tNil))) tNil)) rfl scMixed.nd
        (pi_range1 rfl mr (pa_cons (pe_callB call_len_seq (by rfl) ml PySem.boot_len (pa_cons (pv 1) pa_nil)) pa_nil))
        (blkOk_by (own := [("_law_turn", 3)]) (N := ["_law_pot_here", "_law_some", "_law_left", "_law_turn"]) (sc := defScope sMixed) (by decide +kernel))
        (fun _ _ _ _ _ => pg_name (i := 3) scMixed.nd rfl (Or.inl rfl)) (fun _ _ _ _ _ => pts_nil)
        (fun _ _ _ _ _ => pe_bm PySem.F.plainAttrs_list PySem.F.slot_list_pop PySem.F.type_list_pop mt_popAt (pv 2)
          (pa_cons (pe_call GD hr (by rfl) gD FD.kp bD .nil pass0 (pa_cons (pv 0) (pa_cons (pe_callB call_len_seq (by rfl) ml PySem.boot_len (pa_cons (pv 2) pa_nil)) pa_nil))) pa_nil))))), ?_⟩
    refine ⟨.ref b, rfl, b, xs, rfl, .inl hb, fun l nl => ?_⟩
    have nlp : p ≠ l := by
      obtain ⟨_, _, e, _⟩ := hp
      exact ne_of_none e nl
    have s1 : Same H (upd H l (.lst xs)) := same_new nl
    refine ⟨.ref b, rfl, b, xs, rfl, .inl (s1.seq hb), _, rfl, by omega, by omega, fun D nD => ?_⟩
    have nDp : p ≠ D := by
      obtain ⟨_, _, e, _⟩ := hp
      exact ne_of_none (s1 _ _ e) nD
    have nDl : l ≠ D := fun z => by
      rw [← z, upd_same] at nD
      cases nD
    have nD0 : H D = none := s1.free nD
    refine lc_range (lo := 0) (n := (xs.length : Int).toNat) (fun i H3 => ∃ out rest : List V, H3 D = some (.lst out) ∧ H3 l = some (.lst rest) ∧ (out ++ rest).Perm xs ∧ out.length = i ∧ PotAt H3 p ∧ But p H H3)
      ⟨[], xs, upd_same, by rw [upd_ne nDl, upd_same], List.Perm.refl _, rfl, (hp.same s1).same (same_new nD), (But.of_same s1).new nD⟩ (fun i H3 hi hP => ?_) (fun H3 hP => ?_)
    · obtain ⟨out, rest, e1, e2, e3, e4, e5, e6⟩ := hP
      have le := e3.length_eq
      rw [List.length_append] at le
      have hi2 : i < xs.length := by omega
      refine ⟨rfl, .ref l, rfl, .inl ⟨rfl, _, .inl (.inl e2)⟩, .ref p, rfl, .ref l, rfl, l, rest, rfl, .inl (.inl (.inl e2)), p, _, rfl, e5, by omega, by omega, fun H4 d d0 d1 hp4 s4 => ?_⟩
      have hd : d.toNat < rest.length := by omega
      have ey : rest[d.toNat]? = some rest[d.toNat] := List.getElem?_eq_getElem hd
      have e2' := s4 _ _ nlp.symm e2
      refine ⟨l, rest, d, d.toNat, rest[d.toNat], rfl, rfl, e2', by omega, by omega, seqIx d0 d1, ey, ?_⟩
      refine ⟨out, by rw [upd_ne nDl.symm]; exact s4 _ _ nDp.symm e1, sz1 (by omega), ?_⟩
      refine ⟨out ++ [rest[d.toNat]], rest.eraseIdx d.toNat, upd_same, by rw [upd_ne nDl, upd_same], ?_, ?_, ?_, ?_⟩
      · rw [List.append_assoc]
        exact ((perm_erase rest _ _ ey).append_left out).trans e3
      · rw [List.length_append, e4]
        rfl
      · obtain ⟨r, g, e, h⟩ := hp4
        exact ⟨r, g, by rw [upd_ne nDp, upd_ne nlp]; exact e, h⟩
      · intro c o nc hc
        rw [upd_ne (ne_of_none hc nD0), upd_ne (ne_of_none hc nl)]
        exact s4 _ _ nc (e6 _ _ nc hc)
    · obtain ⟨out, rest, e1, e2, e3, e4, e5, e6⟩ := hP
      have le := e3.length_eq
      rw [List.length_append] at le
      have hr0 : rest = [] := List.eq_nil_of_length_eq_zero (by omega)
      rw [hr0, List.append_nil] at e3
      exact q _ D out e5 e6 nD0 nDp.symm e1 e3
theorem scName : FnScope ["_law_pot_here", "_law_letters", "_law_turn"] ["_law_pot_here"] (defScope sName) :=
  ⟨rfl, rfl, rfl, by decide +kernel, rfl, by decide +kernel, by decide +kernel⟩
def spNm : Sp := fun vs H Q _ => ∃ p : Addr, vs = [.ref p] ∧ PotAt H p ∧
  ∀ H' (x : Str), PotAt H' p → But p H H' → nameV (.str x) = true → Q (.str x) H'
theorem ok_name {f fD : Addr} {fd fdD : FuncData} {k : Nat} (F : Fun K "_law_name" "_law_name" sName f fd)
    (FD : Fun K "_law_draw" "_law_draw" sDraw fD fdD) (bD : Binds K fdD ["_law_pot_here", "_law_many"] [])
    (gD : mg "_law_draw" = some (.ref fD)) (md : mg "divmod" = none) (mr : mg "range" = none) :
    FnOk P w K mg base CX0 (k + 2) f fd ["_law_pot_here"] spNm := by
  have GD : FnOk P w K mg base CX0 (k + 1) fD fdD ["_law_pot_here", "_law_many"] spDraw := ok_draw FD md
  refine F.ok scName (fun vs H Q E h => ?_) (fun cdv A outer s H vs Q E hr h => ?_)
  · obtain ⟨a, rfl, _⟩ := h
    rfl
  · obtain ⟨p, rfl, hp, q⟩ := h
    refine ⟨_, pss_cons (ps_set (i := 1) scName.nd rfl (.inr rfl) pe_str)
      (pss_one (ps_ret (pe_join pe_str (pe_lc (own := [("_law_turn", 2)]) (g := gName 2) (tt := tYes) rfl scName.nd
        (pi_range1 rfl mr (pa_cons (pe_ix ix_list (pe_lst (pa_cons pe_int (pa_cons pe_int (pa_cons pe_int pa_nil))))
          (pe_call GD hr (by rfl) gD FD.kp bD .nil pass0 (pa_cons (pv 0) (pa_cons pe_int pa_nil))) (fun _ _ => rfl)) pa_nil))
        (blkOk_by (own := [("_law_turn", 2)]) (N := ["_law_pot_here", "_law_letters", "_law_turn"]) (sc := defScope sName) (by decide +kernel))
        (fun _ _ _ _ _ => pg_name (i := 2) scName.nd rfl (Or.inl rfl)) (fun _ _ _ _ _ => pts_nil)
        (fun _ _ _ _ _ => pe_ix ix_str (pv 1) (pe_call GD hr (by rfl) gD FD.kp bD .nil pass0 (pa_cons (pv 0) (pa_cons pe_int pa_nil))) (fun _ _ => rfl)))))), ?_⟩
    refine ⟨⟨_, rfl⟩, (by decide : 3 ≤ sizeLine), fun l nl => ?_⟩
    have nlp : p ≠ l := by
      obtain ⟨_, _, e, _⟩ := hp
      exact ne_of_none e nl
    refine ⟨.ref p, rfl, p, 3, rfl, hp.same (same_new nl), by decide, by decide, fun H2 d2 b1 b2 hp2 s2 => ?_⟩
    have hl : H2 l = some (.lst [.int 1, .int 2, .int 8]) := s2 _ _ nlp.symm upd_same
    obtain ⟨n, hn, n0, n1⟩ : ∃ n : Int, atI [V.int 1, V.int 2, V.int 8] d2 = some (.int n) ∧ 1 ≤ n ∧ n ≤ 8 := by
      have : d2 = 0 ∨ d2 = 1 ∨ d2 = 2 := by omega
      rcases this with rfl | rfl | rfl
      · exact ⟨1, rfl, by decide, by decide⟩
      · exact ⟨2, rfl, by decide, by decide⟩
      · exact ⟨8, rfl, by decide, by decide⟩
    refine ⟨l, _, d2, .int n, rfl, rfl, .inl (.inl hl), hn, n, rfl, by omega, by omega, fun D nD => ?_⟩
    have nDp : p ≠ D := by
      obtain ⟨_, _, e, _⟩ := hp2
      exact ne_of_none e nD
    have bt : But p H H2 := (But.of_same (same_new nl)).trans s2
    refine lc_range (lo := 0) (n := n.toNat) (fun i H3 => ∃ ys : List Str, H3 D = some (.lst (ys.map V.str)) ∧ ys.length = i ∧ (∀ y ∈ ys, ∃ c, c ∈ az ∧ y = ⟨#[c]⟩) ∧ PotAt H3 p ∧ But p H2 H3)
      ⟨[], upd_same, rfl, fun y hy => (nomatch hy), hp2.same (same_new nD), But.of_same (same_new nD)⟩ (fun i H3 hi hP => ?_) (fun H3 hP => ?_)
    · obtain ⟨ys, e1, e2, e3, e4, e5⟩ := hP
      refine ⟨rfl, _, rfl, .ref p, rfl, p, 26, rfl, e4, by decide, by decide, fun H4 d c1 c2 hp4 s4 => ?_⟩
      obtain ⟨c, hc, hm⟩ := atI_some (L := ("abcdefghijklmnopqrstuvwxyz" : Str).cps.toList) c1 (by
        have : ("abcdefghijklmnopqrstuvwxyz" : Str).cps.toList.length = 26 := by decide +kernel
        omega)
      refine ⟨_, d, c, rfl, rfl, (by decide +kernel : ("abcdefghijklmnopqrstuvwxyz" : Str).length ≤ sizeLine), hc, _, s4 _ _ nDp.symm e1, ?_, ?_⟩
      · rw [List.length_map]
        exact sz1 (by omega)
      · refine ⟨ys ++ [⟨#[c]⟩], ?_, ?_, ?_, ?_, ?_⟩
        · rw [upd_same, List.map_append]
          rfl
        · rw [List.length_append, e2]
          rfl
        · intro y hy
          rcases List.mem_append.mp hy with z | z
          · exact e3 y z
          · exact ⟨c, hm, List.mem_singleton.mp z⟩
        · obtain ⟨r, g, e, h⟩ := hp4
          exact ⟨r, g, by rw [upd_ne nDp]; exact e, h⟩
        · intro b o nb hb
          rw [upd_ne (ne_of_none hb nD)]
          exact s4 b o nb (e5 b o nb hb)
    · obtain ⟨ys, e1, e2, e3, e4, e5⟩ := hP
      obtain ⟨j1, j2⟩ := join_az ys e3
      refine ⟨_, D, ys, rfl, rfl, .inl (.inl (.inl e1)), ?_, ?_⟩
      · have : ∀ zs : List Str, (∀ y ∈ zs, ∃ c, c ∈ az ∧ y = ⟨#[c]⟩) → (zs.map (·.length)).sum = zs.length := by
          intro zs
          induction zs with
          | nil => intro _; rfl
          | cons y r ih =>
            intro hy
            obtain ⟨c, _, h1⟩ := hy y (List.mem_cons_self ..)
            have h2 := ih fun z hz => hy z (List.mem_cons_of_mem _ hz)
            simp only [List.map_cons, List.sum_cons, List.length_cons, h2]
            have h3 : y.length = 1 := by
              rw [h1]
              rfl
            omega
        have h1 := this ys e3
        have h2 : ("" : Str).length = 0 := by decide +kernel
        rw [h2]
        omega
      · refine q _ _ e4 (bt.trans e5) ?_
        show ((decide (1 ≤ (Txt.join "" ys).length) && decide ((Txt.join "" ys).length ≤ 8)) && (Txt.join "" ys).cps.toList.all inAz) = true
        rw [decide_eq_true (by omega : 1 ≤ (Txt.join "" ys).length), decide_eq_true (by omega : (Txt.join "" ys).length ≤ 8), Bool.true_and, Bool.true_and, List.all_eq_true]
        intro c hc
        exact decide_eq_true (j2 c hc)
end
end Lw
namespace Lw
open PySem PySem.Spec PyProof.Rows L2 Kv
abbrev NNames : List Str := ["_law_pot_here", "_law_many", "_law_found", "_law_turn", "_law_drawn", "_law_free", "_law_letter"]
theorem scNames : FnScope NNames ["_law_pot_here", "_law_many"] (defScope sNames) :=
  ⟨rfl, rfl, rfl, by decide +kernel, rfl, by decide +kernel, by decide +kernel⟩
abbrev NKinds : List Str := ["_law_pot_here", "_law_most", "_law_rows", "_law_label", "_law_many", "_law_row"]
theorem scKinds : FnScope NKinds ["_law_pot_here", "_law_most"] (defScope sKinds) :=
  ⟨rfl, rfl, rfl, by decide +kernel, rfl, by decide +kernel, by decide +kernel⟩
section
variable {P : Program} {w : World} {K : PySem.W.Frag} {mg : Str → Option Value} {base : Heap}
def spNames : Sp := fun vs H Q _ => ∃ (p : Addr) (m : Nat), vs = [.ref p, .int m] ∧ PotAt H p ∧ m ≤ 25 ∧
  ∀ H' D (xs : List Str), PotAt H' p → But p H H' → H D = none → D ≠ p → H' D = some (.lst (xs.map V.str)) → xs.length = m → xs.Nodup →
    (∀ x ∈ xs, nameV (.str x) = true) → Q (.ref D) H'
theorem ok_names {f fN : Addr} {fd fdN : FuncData} {k : Nat} (F : Fun K "_law_names" "_law_names" sNames f fd)
    (FN : Fun K "_law_name" "_law_name" sName fN fdN) (bN : Binds K fdN ["_law_pot_here"] []) (gN : mg "_law_name" = some (.ref fN))
    (GN : FnOk P w K mg base CX0 (k + 2) fN fdN ["_law_pot_here"] spNm) (mr : mg "range" = none) :
    FnOk P w K mg base CX0 (k + 3) f fd ["_law_pot_here", "_law_many"] spNames := by
  refine F.ok scNames (fun vs H Q E h => ?_) (fun cdv A outer s H vs Q E hr h => ?_)
  · obtain ⟨a, m, rfl, _⟩ := h
    rfl
  · obtain ⟨p, m, rfl, hp, hm, q⟩ := h
    refine ⟨_, pss_cons (ps_set (i := 2) scNames.nd rfl (.inr rfl) (pe_lst pa_nil))
      (pss_cons (ps_for PassesOwn.never rfl (pi_range1 rfl mr (pa_cons (pv 1) pa_nil)) (pg_name (i := 3) scNames.nd rfl (.inl rfl))
        (pss_cons (ps_set (i := 4) scNames.nd rfl (.inl rfl) (pe_call GN hr (by rfl) gN FN.kp bN .nil pass0 (pa_cons (pv 0) pa_nil)))
        (pss_cons (ps_setLc (i := 5) (own := [("_law_letter", 6)]) (g := gName 6) (tt := tTest (tOp (rIn K true) (tVar 6) (tVar 2))) (te := tVar 6) rfl scNames.nd rfl rfl
            (sw_true rfl rfl rfl (by decide +kernel)) (pi_str pe_str)
            (blkOk_by (own := [("_law_letter", 6)]) (N := NNames) (sc := defScope sNames) (by decide +kernel))
            (fun _ _ _ _ _ => pg_name (i := 6) scNames.nd rfl (Or.inl rfl)) (fun _ _ _ _ _ => pts_one (pt_cmpR op_notIn_seq (pv 6) (pv 2) (by rfl)))
            (fun _ _ _ _ _ => pv 6))
        (pss_one (ps_expr (pe_bm PySem.F.plainAttrs_list PySem.F.slot_list_append PySem.F.type_list_append mt_append (pv 2)
          (pa_cons (pe_ifExp (pt_cmpR op_in_seq (pv 4) (pv 2) (by rfl)) (pe_ix ix_list (pv 5) pe_int (fun _ _ => rfl)) (pv 4)) pa_nil)))))))
      (pss_one (ps_ret (pv 2)))), ?_⟩
    refine ⟨(by decide : 0 ≤ sizeLine), fun D nD => ?_⟩
    have nDp : p ≠ D := by
      obtain ⟨_, _, e, _⟩ := hp
      exact ne_of_none e nD
    refine ⟨.int m, rfl, m, rfl, by omega, by omega, ?_⟩
    refine for_range (n := (m : Int).toNat) (fun i σ H3 => ∃ (y3 y4 y5 : Option V) (xs : List Str), σ = [some (.ref p), some (.int m), some (.ref D), y3, y4, y5, none] ∧ H3 D = some (.lst (xs.map V.str)) ∧
      xs.length = i ∧ xs.Nodup ∧ (∀ x ∈ xs, nameV (.str x) = true) ∧ PotAt H3 p ∧ But p H H3)
      ⟨none, none, none, [], rfl, upd_same, rfl, List.nodup_nil, fun x hx => (nomatch hx), hp.same (same_new nD), But.of_same (same_new nD)⟩ (fun i σ H3 hi hP => ?_) (fun σ H3 hP => ?_)
    · obtain ⟨y3, y4, y5, xs, rfl, e1, e2, e3, e4, e5, e6⟩ := hP
      have hi2 : i < m := by omega
      refine ⟨.ref p, rfl, p, rfl, e5, fun H4 x hp4 s4 hx => ?_⟩
      have d4 := s4 _ _ nDp.symm e1
      have b4 : But p H H4 := e6.trans s4
      refine ⟨_, rfl, fun L nL => ?_⟩
      have nLp : p ≠ L := by
        obtain ⟨_, _, e, _⟩ := hp4
        exact ne_of_none e nL
      have nLD : D ≠ L := ne_of_none d4 nL
      refine lc_it walk_str (fun j H5 => H5 = upd H4 L (.lst (((letters.take j).filter fun y => decide (y ∉ xs)).map V.str))) ?_ (fun _ _ _ _ => trivial) (fun j y H5 H6 hj hP hY => ?_) (fun H5 hP => ?_)
      · rfl
      · obtain ⟨rfl, c, hc, rfl⟩ := hY
        subst hP
        have hc2 : letters[j]? = some ⟨#[c]⟩ := by
          unfold letters az
          rw [List.getElem?_map, Array.getElem?_toList, hc]
          rfl
        refine ⟨rfl, .str ⟨#[c]⟩, rfl, .ref D, rfl, D, xs.map V.str, rfl, .inl (.inl (.inl (by rw [upd_ne nLD]; exact d4))), rfl, flats xs, _, rfl, ?_⟩
        show if (!inV (.str ⟨#[c]⟩) (xs.map V.str)) = true then _ else _
        rw [inV_strs]
        by_cases hz : (⟨#[c]⟩ : Str) ∈ xs
        · rw [decide_eq_true hz]
          refine iteF ?_
          rw [List.take_add_one, hc2, List.filter_append]
          show _ = upd H4 L (.lst ((_ ++ [(⟨#[c]⟩ : Str)].filter _).map V.str))
          rw [List.filter_cons_of_neg (by simpa using hz), List.filter_nil, List.append_nil]
        · rw [decide_eq_false hz]
          refine iteT ⟨.str ⟨#[c]⟩, rfl, _, upd_same, ?_, ?_⟩
          · rw [List.length_map]
            refine Nat.lt_of_le_of_lt (List.length_filter_le _ _) ?_
            rw [List.length_take]
            have := letters_len
            exact sz1 (by omega)
          · rw [upd_upd, List.take_add_one, hc2, List.filter_append]
            show _ = upd H4 L (.lst ((_ ++ [(⟨#[c]⟩ : Str)].filter _).map V.str))
            rw [List.filter_cons_of_pos (by simpa using hz), List.filter_nil, List.map_append]
            rfl
      · subst hP
        have e26 : letters.take ("abcdefghijklmnopqrstuvwxyz" : Str).cps.size = letters := by decide +kernel
        have L5 : (upd H4 L (.lst (((letters.take ("abcdefghijklmnopqrstuvwxyz" : Str).cps.size).filter fun y => decide (y ∉ xs)).map V.str))) D = some (.lst (xs.map V.str)) := by
          rw [upd_ne nLD]
          exact d4
        have p5 : PotAt (upd H4 L (.lst (((letters.take ("abcdefghijklmnopqrstuvwxyz" : Str).cps.size).filter fun y => decide (y ∉ xs)).map V.str))) p := hp4.same (same_new nL)
        refine ⟨.ref D, rfl, .inl ⟨rfl, _, .inl (.inl L5)⟩, .str x, rfl, .ref D, rfl, D, xs.map V.str, rfl, .inl (.inl (.inl L5)), rfl, flats xs, _, rfl, ?_⟩
        show if inV (.str x) (xs.map V.str) = true then _ else _
        rw [inV_strs]
        have fin : ∀ y : Str, y ∉ xs → nameV (.str y) = true → ∃ (y3' y4' y5' : Option V) (xs' : List Str), ([some (.ref p), some (.int m), some (.ref D), some (.int (0 + (i : Int))), some (.str x), some (.ref L), none] : List (Option V)) = [some (.ref p), some (.int m), some (.ref D), y3', y4', y5', none] ∧
            (upd (upd H4 L (.lst (((letters.take ("abcdefghijklmnopqrstuvwxyz" : Str).cps.size).filter fun y => decide (y ∉ xs)).map V.str))) D (.lst (xs.map V.str ++ [.str y]))) D = some (.lst (xs'.map V.str)) ∧
            xs'.length = i + 1 ∧ xs'.Nodup ∧ (∀ x ∈ xs', nameV (.str x) = true) ∧ PotAt (upd (upd H4 L (.lst (((letters.take ("abcdefghijklmnopqrstuvwxyz" : Str).cps.size).filter fun y => decide (y ∉ xs)).map V.str))) D (.lst (xs.map V.str ++ [.str y]))) p ∧
            But p H (upd (upd H4 L (.lst (((letters.take ("abcdefghijklmnopqrstuvwxyz" : Str).cps.size).filter fun y => decide (y ∉ xs)).map V.str))) D (.lst (xs.map V.str ++ [.str y]))) := by
          intro y hy1 hy2
          refine ⟨_, _, _, xs ++ [y], rfl, ?_, ?_, ?_, ?_, ?_, ?_⟩
          · rw [upd_same, List.map_append]
            rfl
          · rw [List.length_append, e2]
            rfl
          · rw [List.nodup_append]
            refine ⟨e3, List.pairwise_singleton _ _, fun a ha b hb => ?_⟩
            rw [List.mem_singleton.mp hb]
            rintro rfl
            exact hy1 ha
          · intro z hz
            rcases List.mem_append.mp hz with z1 | z1
            · exact e4 z z1
            · rw [List.mem_singleton.mp z1]
              exact hy2
          · obtain ⟨r, g, e, h⟩ := p5
            exact ⟨r, g, by rw [upd_ne nDp]; exact e, h⟩
          · intro b o nb hb
            rw [upd_ne (ne_of_none hb nD)]
            exact same_new nL _ _ (b4 b o nb hb)
        have szD : (xs.map V.str).length < sizeLine := by
          rw [List.length_map]
          exact sz1 (by omega)
        by_cases hz : x ∈ xs
        · rw [decide_eq_true hz]
          have lf := filter_left xs letters_nodup
          rw [letters_len] at lf
          obtain ⟨y, r, hyr⟩ : ∃ y r, (letters.filter fun y => decide (y ∉ xs)) = y :: r := by
            cases hc : letters.filter fun y => decide (y ∉ xs) with
            | nil =>
              rw [hc] at lf
              have : ([] : List Str).length = 0 := rfl
              omega
            | cons y r => exact ⟨y, r, rfl⟩
          have hym : y ∈ letters ∧ decide (y ∉ xs) = true := List.mem_filter.mp (by rw [hyr]; exact List.mem_cons_self ..)
          have F5 : atI (((letters.take ("abcdefghijklmnopqrstuvwxyz" : Str).cps.size).filter fun y => decide (y ∉ xs)).map V.str) 0 = some (.str y) := by
            rw [e26, hyr]
            exact atI_nat (j := 0) rfl
          refine iteT ⟨.ref L, rfl, L, _, 0, .str y, rfl, rfl, .inl (.inl upd_same), F5, D, _, _, rfl, rfl, L5, szD, ?_⟩
          exact fin y (of_decide_eq_true hym.2) (letter_name y hym.1)
        · rw [decide_eq_false hz]
          refine iteF ⟨.str x, rfl, D, _, _, rfl, rfl, L5, szD, ?_⟩
          exact fin x hz hx
    · obtain ⟨y3, y4, y5, xs, rfl, e1, e2, e3, e4, e5, e6⟩ := hP
      exact ⟨.ref D, rfl, q _ D xs e5 e6 nD nDp.symm e1 (by omega) e3 e4⟩
end
end Lw
namespace Lw
open PySem PySem.Spec PyProof.Rows L2 Kv
section
variable {P : Program} {w : World} {K : PySem.W.Frag} {mg : Str → Option Value} {base : Heap}
def spKinds : Sp := fun vs H Q _ => ∃ (p : Addr) (most : Nat), vs = [.ref p, .int most] ∧ PotAt H p ∧ 1 ≤ most ∧ most ≤ 20 ∧
  ∀ H' R (us : List V) (rows : List Row2), PotAt H' p → But p H H' → H R = none → R ≠ p → H' R = some (.lst us) → RowsAre H' us rows → Valid rows →
    1 ≤ rows.length → rows.length ≤ most → Q (.ref R) H'
theorem ok_kinds {f fD fN fM : Addr} {fd fdD fdN fdM : FuncData} {k : Nat} (F : Fun K "_law_kinds" "_law_kinds" sKinds f fd)
    (FD : Fun K "_law_draw" "_law_draw" sDraw fD fdD) (bD : Binds K fdD ["_law_pot_here", "_law_many"] []) (gD : mg "_law_draw" = some (.ref fD))
    (FN : Fun K "_law_names" "_law_names" sNames fN fdN) (bN : Binds K fdN ["_law_pot_here", "_law_many"] []) (gN : mg "_law_names" = some (.ref fN))
    (FM : Fun K "_law_mixed" "_law_mixed" sMixed fM fdM) (bM : Binds K fdM ["_law_pot_here", "_law_some"] []) (gM : mg "_law_mixed" = some (.ref fM))
    (GD : FnOk P w K mg base CX0 (k + 1) fD fdD ["_law_pot_here", "_law_many"] spDraw)
    (GN : FnOk P w K mg base CX0 (k + 3) fN fdN ["_law_pot_here", "_law_many"] spNames)
    (GM : FnOk P w K mg base CX0 (k + 2) fM fdM ["_law_pot_here", "_law_some"] (spMixed K)) (mT : mg "tuple" = none) :
    FnOk P w K mg base CX0 (k + 4) f fd ["_law_pot_here", "_law_most"] spKinds := by
  refine F.ok scKinds (fun vs H Q E h => ?_) (fun cdv A outer s H vs Q E hr h => ?_)
  · obtain ⟨a, m, rfl, _⟩ := h
    rfl
  · obtain ⟨p, most, rfl, hp, m1, m2, q⟩ := h
    have hrD := hr.mono (by omega : k + 1 ≤ k + 3)
    have hrM := hr.mono (by omega : k + 2 ≤ k + 3)
    refine ⟨_, pss_cons (ps_set (i := 2) scKinds.nd rfl (.inl rfl) (pe_lst pa_nil))
      (pss_cons (ps_for PassesOwn.never rfl (pi_list (pe_call GN hr (by rfl) gN FN.kp bN .nil pass0 (pa_cons (pv 0) (pa_cons (pe_op op_add pe_int
            (pe_call GD hrD (by rfl) gD FD.kp bD .nil pass0 (pa_cons (pv 0) (pa_cons (pv 1) pa_nil)))) pa_nil)))) (pg_name (i := 3) scKinds.nd rfl (.inl rfl))
        (pss_cons (ps_set (i := 4) scKinds.nd rfl (.inl rfl) (pe_ix ix_list (pe_lst (pa_cons pe_int (pa_cons pe_int (pa_cons pe_int (pa_cons pe_int (pa_cons pe_int (pa_cons pe_int pa_nil)))))))
            (pe_call GD hrD (by rfl) gD FD.kp bD .nil pass0 (pa_cons (pv 0) (pa_cons pe_int pa_nil))) (fun _ _ => rfl)))
        (pss_one (ps_expr (pe_bm PySem.F.plainAttrs_list PySem.F.slot_list_append PySem.F.type_list_append mt_append (pv 2)
          (pa_cons (pe_tup (pa_cons (pv 3) (pa_cons (pe_callTy call_tuple_of (by rfl) mT (by decide +kernel) (pa_cons (pe_slice sl_list
            (pe_call GM hrM (by rfl) gM FM.kp bM .nil pass0 (pa_cons (pv 0) (pa_cons
              (pe_lc (own := [("_law_row", 5)]) (g := gName 5) (tt := tYes) (te := tOp (rIxT K) (tVar 5) (tC (.int 0))) rfl scKinds.nd (pi_list (pv 2))
                (blkOk_by (own := [("_law_row", 5)]) (N := NKinds) (sc := defScope sKinds) (by decide +kernel))
                (fun _ _ _ _ _ => pg_name (i := 5) scKinds.nd rfl (Or.inl rfl)) (fun _ _ _ _ _ => pts_nil)
                (fun _ _ _ _ _ => pe_ix ix_tup (pv 5) pe_int (fun _ _ => rfl))) pa_nil)))
            po_none (po_some (pv 4))) pa_nil)) pa_nil))) pa_nil))))))
      (pss_one (ps_ret (pv 2)))), ?_⟩
    refine ⟨(by decide : 0 ≤ sizeLine), fun R nR => ?_⟩
    have nRp : p ≠ R := by
      obtain ⟨_, _, e, _⟩ := hp
      exact ne_of_none e nR
    have hpR := hp.same (same_new (o := .lst []) nR)
    refine ⟨.ref p, rfl, .ref p, rfl, .int most, rfl, p, most, rfl, hpR, by omega, by omega, fun H1 d a1 a2 hp1 s1 => ?_⟩
    refine ⟨_, _, rfl, rfl, p, (1 + d).toNat, ?_, hp1, by omega, fun H2 N xs hp2 s2 nN neN eN lN ndN nmN => ?_⟩
    · show [V.ref p, V.int (1 + d)] = _
      rw [Int.toNat_of_nonneg (by omega)]
    have R1 := s1 _ _ nRp.symm upd_same
    have nNR : R ≠ N := ne_of_none R1 nN
    have R2 := s2 _ _ nRp.symm R1
    have b2 : But p H H2 := (But.of_same (same_new nR)).trans (s1.trans s2)
    refine ⟨N, rfl, ⟨_, .inl (.inl eN)⟩, ?_⟩
    refine for_list (xs := xs.map V.str) (fun i σ H3 => ∃ (y3 y4 : Option V) (us : List V) (rows : List Row2), σ = [some (.ref p), some (.int most), some (.ref R), y3, y4, none] ∧ H3 R = some (.lst us) ∧
        RowsAre H3 us rows ∧ Valid rows ∧ fsts rows = xs.take i ∧ H3 N = some (.lst (xs.map V.str)) ∧ PotAt H3 p ∧ But p H H3)
      ⟨none, none, [], [], rfl, R2, .nil, valid_nil, rfl, eN, hp2, b2⟩ (fun i σ H3 _ hP => ?_) (fun i v σ H3 hv hP => ?_) (fun σ H3 hP => ?_)
    · obtain ⟨_, _, _, _, _, _, _, _, _, e, _⟩ := hP
      exact .inl (.inl e)
    · obtain ⟨y3, y4, us, rows, rfl, eR, era, eva, efs, eN3, hp3, b3⟩ := hP
      rw [List.getElem?_map] at hv
      obtain ⟨x, hx, rfl⟩ : ∃ x, xs[i]? = some x ∧ v = .str x := by
        cases hz : xs[i]? with
        | none =>
          rw [hz] at hv
          cases hv
        | some x =>
          rw [hz] at hv
          exact ⟨x, rfl, (Option.some.inj hv).symm⟩
      have hil : i < xs.length := (List.getElem?_eq_some_iff.mp hx).1
      have lr : rows.length = i := by
        have := congrArg List.length efs
        unfold fsts at this
        rw [List.length_map, List.length_take] at this
        omega
      refine ⟨(by decide : 6 ≤ sizeLine), fun l nl => ?_⟩
      have t1 := same_new (o := .lst [.int 0, .int 1, .int 1, .int 2, .int 2, .int 3]) nl
      have nlp : p ≠ l := by
        obtain ⟨_, _, e, _⟩ := hp3
        exact ne_of_none e nl
      refine ⟨.ref p, rfl, p, 6, rfl, hp3.same t1, by decide, by decide, fun H5 d5 c1 c2 hp5 s5 => ?_⟩
      have el := s5 _ _ nlp.symm upd_same
      obtain ⟨n, hn, n3⟩ : ∃ n : Nat, atI [V.int 0, V.int 1, V.int 1, V.int 2, V.int 2, V.int 3] d5 = some (.int n) ∧ n ≤ 3 := by
        have : d5 = 0 ∨ d5 = 1 ∨ d5 = 2 ∨ d5 = 3 ∨ d5 = 4 ∨ d5 = 5 := by omega
        rcases this with rfl | rfl | rfl | rfl | rfl | rfl
        · exact ⟨0, rfl, by decide⟩
        · exact ⟨1, rfl, by decide⟩
        · exact ⟨1, rfl, by decide⟩
        · exact ⟨2, rfl, by decide⟩
        · exact ⟨2, rfl, by decide⟩
        · exact ⟨3, rfl, by decide⟩
      have R5 : H5 R = some (.lst us) := s5 _ _ nRp.symm (t1 _ _ eR)
      have N5 : H5 N = some (.lst (xs.map V.str)) := s5 _ _ neN (t1 _ _ eN3)
      have era5 : RowsAre H5 us rows := (era.same t1).but (hp3.same t1) s5
      have b5 : But p H H5 := (b3.new nl).trans s5
      refine ⟨l, _, d5, .int n, rfl, rfl, .inl (.inl el), hn, ?_⟩
      refine ⟨.ref R, rfl, .inl ⟨rfl, _, .inl (.inl R5)⟩, .str x, rfl, .ref p, rfl, .ref R, rfl, R, rfl, ⟨_, .inl (.inl R5)⟩, fun D nD => ?_⟩
      have nDR : R ≠ D := ne_of_none R5 nD
      refine lc_list (xs := us) (fun j H6 => H6 = upd H5 D (.lst (((fsts rows).take j).map V.str))) rfl (fun j H6 _ hP => ?_) (fun j v H6 hv hP => ?_) (fun H6 hP => ?_)
      · subst hP
        exact .inl (.inl (by rw [upd_ne nDR]; exact R5))
      · subst hP
        obtain ⟨r, hr1, t, sA, rfl, et, es⟩ := era5.get hv
        have jl : j < us.length := (List.getElem?_eq_some_iff.mp hv).1
        refine ⟨rfl, .ref t, rfl, t, [.str r.1, .ref sA], 0, .str r.1, rfl, rfl, .inl (.inl (by rw [upd_ne (ne_of_none et nD)]; exact et)), atI_nat (j := 0) rfl, _, upd_same, ?_, ?_⟩
        · rw [List.length_map, List.length_take]
          have := era5.length
          exact sz1 (by
            have : xs.length ≤ 25 := by omega
            omega)
        · have hf : (fsts rows)[j]? = some r.1 := by
            unfold fsts
            rw [List.getElem?_map, hr1]
            rfl
          rw [upd_upd, List.take_add_one, hf, List.map_append]
          rfl
      · subst hP
        have ln := era5.length
        have etk : (fsts rows).take us.length = fsts rows := List.take_of_length_le (by
          unfold fsts
          rw [List.length_map]
          omega)
        rw [etk]
        have t6 := same_new (o := .lst ((fsts rows).map V.str)) nD
        refine ⟨p, D, (fsts rows).map V.str, rfl, hp5.same t6, .inl (.inl upd_same), by
          unfold fsts
          rw [List.length_map, List.length_map]
          omega, fun H7 D2 ys hp7 s7 nD2 neD2 eD2 pm => ?_⟩
        obtain ⟨ms, rfl, pm2⟩ := perm_strs pm
        refine ⟨.int n, rfl, n, rfl, D2, _, rfl, .inl (.inl eD2), fun c nc => ?_⟩
        rw [cut_take] at *
        refine ⟨c, _, rfl, .inl ⟨.inl (.inl upd_same), fun u nu => ?_⟩⟩
        refine ⟨(by decide : 2 ≤ sizeLine), fun t nt => ?_⟩
        have z1 := same_new (o := .lst ((ms.map V.str).take n)) nc
        have z2 := same_new (o := .tup ((ms.map V.str).take n)) nu
        have z3 := same_new (o := .tup [.str x, .ref u]) nt
        have R7 : H7 R = some (.lst us) := s7 _ _ nRp.symm (t6 _ _ R5)
        have R8 := z3 _ _ (z2 _ _ (z1 _ _ R7))
        have N8 := z3 _ _ (z2 _ _ (z1 _ _ (s7 _ _ neN (t6 _ _ N5))))
        have U8 := z3 _ _ (upd_same (H := upd H7 c (.lst ((ms.map V.str).take n))) (a := u) (o := .tup ((ms.map V.str).take n)))
        have era7 : RowsAre H7 us rows := (era5.same t6).but (hp5.same t6) s7
        refine ⟨R, us, .ref t, rfl, rfl, R8, sz1 (by omega), ?_⟩
        have hxr : x ∉ fsts rows := by
          rw [efs]
          intro hz
          obtain ⟨j, hj, e⟩ := List.getElem_of_mem hz
          rw [List.getElem_take] at e
          have hj2 : j < i := by
            rw [List.length_take] at hj
            omega
          have hxi : xs[i] = x := (List.getElem?_eq_some_iff.mp hx).2
          exact (List.pairwise_iff_getElem.mp ndN j i (by omega) hil hj2) (by rw [e, hxi])
        have hnd : (fsts rows).Nodup := by
          rw [efs]
          exact ndN.sublist (List.take_sublist _ _)
        refine ⟨_, _, us ++ [.ref t], rows ++ [(x, ms.take n)], rfl, upd_same, ?_, ?_, ?_, ?_, ?_, ?_⟩
        · refine RowsAre.snoc ((((era7.same z1).same z2).same z3).wr R8) (RowAt.wr R8 ⟨t, u, rfl, upd_same, ?_⟩)
          rw [List.map_take]
          exact U8
        · refine eva.snoc (nmN x (List.mem_of_getElem? hx)) hxr ((pm2.nodup_iff.mpr hnd).sublist (List.take_sublist _ _)) ?_
          intro z hz
          exact pm2.mem_iff.mp (List.mem_of_mem_take hz)
        · rw [fsts_snoc, efs, List.take_add_one, hx]
          rfl
        · rw [upd_ne nNR.symm]
          exact N8
        · obtain ⟨r, g, e, h⟩ := hp7
          exact ⟨r, g, by rw [upd_ne nRp]; exact z3 _ _ (z2 _ _ (z1 _ _ e)), h⟩
        · intro b o nb hb
          rw [upd_ne (ne_of_none hb nR)]
          exact z3 _ _ (z2 _ _ (z1 _ _ (s7 _ _ nb (t6 _ _ (b5 b o nb hb)))))
    · obtain ⟨y3, y4, us, rows, rfl, eR, era, eva, efs, eN3, hp3, b3⟩ := hP
      have lr : rows.length = xs.length := by
        have := congrArg List.length efs
        unfold fsts at this
        rw [List.length_map, List.length_take, List.length_map] at this
        omega
      exact ⟨.ref R, rfl, q _ R us rows hp3 b3 nR nRp.symm eR era eva (by omega) (by omega)⟩
end
end Lw
namespace Lw
open PySem PySem.Spec PyProof.Rows L2 Kv
abbrev NAre : List Str := ["value", "known", "name"]
theorem scAre : FnScope NAre ["value", "known"] (defScope sAre) :=
  ⟨rfl, rfl, rfl, by decide +kernel, rfl, by decide +kernel, by decide +kernel⟩
theorem scProb : FnScope ["row", "known", "name", "superclasses"] ["row", "known"] (defScope sProb) :=
  ⟨rfl, rfl, rfl, by decide +kernel, rfl, by decide +kernel, by decide +kernel⟩
theorem scAnc : FnScope ["name", "superclasses", "above", "found", "superclass", "ancestor"] ["name", "superclasses", "above"] (defScope sAnc) :=
  ⟨rfl, rfl, rfl, by decide +kernel, rfl, by decide +kernel, by decide +kernel⟩
section
variable {P : Program} {w : World} {K : PySem.W.Frag} {mg : Str → Option Value} {base : Heap}
def areV (kvs : List (Key × V)) (ss : List Str) : Bool := ss.all (fun x => (valV kvs (Sum.inr x : Key)).isSome) && decide (met ss ss.length = ss.length)
def spAre : Sp := fun vs H Q _ => ∃ (a d : Addr) (ss : List Str) (kvs : List (Key × V)), vs = [.ref a, .ref d] ∧ H a = some (.tup (ss.map V.str)) ∧ H d = some (.dK kvs) ∧ ss.length ≤ 100 ∧
  ∀ H', Same H H' → Q (.bl (areV kvs ss)) H'
theorem ok_are {f : Addr} {fd : FuncData} {k : Nat} (F : Fun K "are_superclasses" "are_superclasses" sAre f fd)
    (mi : mg "isinstance" = none) (mT : mg "tuple" = none) (ms : mg "str" = none) (ma : mg "all" = none) (ml : mg "len" = none) (mS : mg "set" = none) :
    FnOk P w K mg base CX0 (k + 1) f fd ["value", "known"] spAre := by
  refine F.ok scAre (fun vs H Q E h => ?_) (fun cdv A outer s H vs Q E hr h => ?_)
  · obtain ⟨a, d, ss, kvs, rfl, _⟩ := h
    rfl
  · obtain ⟨a, d, ss, kvs, rfl, ha, hd, hl, q⟩ := h
    have hu := hu_of hr
    refine ⟨_, pss_cons (ps_if (pt_not (pt_val (pe_callB call_isi (by rfl) mi (by decide +kernel) (pa_cons (pv 0)
          (pa_cons (pe_bltn (v := .ty "tuple") (by rfl) mT (by decide +kernel : bootBuiltins "tuple" = some (.type "tuple")) rfl) pa_nil))))) (pss_one (ps_ret pe_bl)) pss_nil)
      (pss_cons (ps_if (pt_not (pt_val (pe_callB (cr_all rfl) (by rfl) ma (by decide +kernel) (pa_cons
          (pe_lc (own := [("name", 2)]) (g := gName 2) (tt := tYes) (te := tAndV (tCB (rIsi K) (tCons (tVar 2) (tCons (tC (.ty "str")) tNil))) (tDIn (tVar 2) (tVar 1))) rfl scAre.nd (pi_tup (pv 0))
            (blkOk_by (own := [("name", 2)]) (N := NAre) (sc := defScope sAre) (by decide +kernel))
            (fun _ _ _ _ _ => pg_name (i := 2) scAre.nd rfl (Or.inl rfl)) (fun _ _ _ _ _ => pts_nil)
            (fun _ _ _ _ _ => pe_and (pe_callB call_isi (by rfl) mi (by decide +kernel) (pa_cons (pv 2)
              (pa_cons (pe_bltn (v := .ty "str") (by rfl) ms (by decide +kernel : bootBuiltins "str" = some (.type "str")) rfl) pa_nil)))
              (pe_one (pe_cmp (pc_din hu (pv 2) (pv 1)) rfl)))) pa_nil)))) (pss_one (ps_ret pe_bl)) pss_nil)
      (pss_one (ps_ret (pe_cmpR op_eq (pe_lenTexts rfl (by rfl) ml (by rfl) mS (pv 0)) (pe_callB call_len_seq (by rfl) ml PySem.boot_len (pa_cons (pv 0) pa_nil)) (nomark _))))), ?_⟩
    refine ⟨.ref a, rfl, .ref a, .ty "tuple", _, _, true, rfl, .ty "tuple", .base (.tup ha), kit_ty (by decide +kernel), true, rfl, iteF ?_⟩
    refine ⟨.ref a, rfl, a, rfl, ⟨_, .inl (.inl ha)⟩, fun D nD => ?_⟩
    have nDa : a ≠ D := ne_of_none ha nD
    have nDd : d ≠ D := ne_of_none hd nD
    refine lc_tup (xs := ss.map V.str) (fun i H3 => H3 = upd H D (.lst ((ss.take i).map fun x => .bl (valV kvs (Sum.inr x : Key)).isSome))) rfl (fun i H3 _ hP => ?_) (fun i v H3 hv hP => ?_) (fun H3 hP => ?_)
    · subst hP
      exact .inl (.inl (by rw [upd_ne nDa]; exact ha))
    · subst hP
      rw [List.getElem?_map] at hv
      obtain ⟨x, hx, rfl⟩ : ∃ x, ss[i]? = some x ∧ v = .str x := by
        cases hz : ss[i]? with
        | none =>
          rw [hz] at hv
          cases hv
        | some x =>
          rw [hz] at hv
          exact ⟨x, rfl, (Option.some.inj hv).symm⟩
      have hd2 : (upd H D (.lst ((ss.take i).map fun x => V.bl (valV kvs (Sum.inr x : Key)).isSome))) d = some (.dK kvs) := by
        rw [upd_ne nDd]
        exact hd
      refine ⟨rfl, .str x, rfl, .str x, .ty "str", _, _, true, rfl, .ty "str", .base (.str x), kit_ty (by decide +kernel), true, rfl, iteT ?_⟩
      refine ⟨.str x, rfl, .ref d, rfl, d, _, rfl, DGet.k (k := Sum.inr x) hd2, _, upd_same, ?_, ?_⟩
      · rw [List.length_map, List.length_take]
        exact sz1 (by omega)
      · rw [upd_upd, List.take_add_one, hx, List.map_append]
        rfl
    · subst hP
      have et : ss.take (ss.map V.str).length = ss := by
        rw [List.length_map, List.take_length]
      rw [et]
      have sD := same_new (o := .lst (ss.map fun x => V.bl (valV kvs (Sum.inr x : Key)).isSome)) nD
      refine ⟨D, ss.map fun x => (valV kvs (Sum.inr x : Key)).isSome, rfl, .inl (.inl (by rw [upd_same, List.map_map]; rfl)), _, rfl, ?_⟩
      rw [List.all_map]
      show if (!(ss.all (fun x => (valV kvs (Sum.inr x : Key)).isSome))) = true then _ else _
      cases hz : ss.all (fun x => (valV kvs (Sum.inr x : Key)).isSome) with
      | false =>
        refine iteT ?_
        have := q _ sD
        unfold areV at this
        rw [hz, Bool.false_and] at this
        exact this
      | true =>
        refine iteF ?_
        refine ⟨.ref a, rfl, a, ss, rfl, .inl (.inl (sD _ _ ha)), by omega, .ref a, rfl, a, ss.map V.str, rfl, .inr (.inl (.inl (sD _ _ ha))), rfl, ?_⟩
        have := q _ sD
        unfold areV at this
        rw [hz, Bool.true_and] at this
        rw [List.length_map]
        have e : decide (V.int (met ss ss.length : Nat) = V.int (ss.length : Nat)) = decide (met ss ss.length = ss.length) := by
          by_cases e : met ss ss.length = ss.length
          · rw [decide_eq_true e, e]
            exact decide_eq_true rfl
          · rw [decide_eq_false e, decide_eq_false (fun z => e (by
              have := V.int.inj z
              omega))]
        rw [e]
        exact this
def spProb : Sp := fun vs H Q _ => ∃ (t d : Addr) (r : Row2) (kvs : List (Key × V)), vs = [.ref t, .ref d] ∧ RowAt H (.ref t) r ∧ H d = some (.dK kvs) ∧
  nameV (.str r.1) = true ∧ valV kvs (Sum.inr r.1 : Key) = none ∧ (∀ x ∈ r.2, (valV kvs (Sum.inr x : Key)).isSome = true) ∧ r.2.Nodup ∧ r.2.length ≤ 100 ∧
  ∀ H', Same H H' → Q .non H'
theorem ok_prob {f fN fA : Addr} {fd fdN fdA : FuncData} {k : Nat} (F : Fun K "row_problem" "row_problem" sProb f fd)
    (FN : Fun K "is_name" "is_name" sIsName fN fdN) (bN : Binds K fdN ["value"] []) (gN : mg "is_name" = some (.ref fN))
    (FA : Fun K "are_superclasses" "are_superclasses" sAre fA fdA) (bA : Binds K fdA ["value", "known"] []) (gA : mg "are_superclasses" = some (.ref fA))
    (GN : FnOk P w K mg base CX0 (k + 1) fN fdN ["value"] (spName K)) (GA : FnOk P w K mg base CX0 (k + 1) fA fdA ["value", "known"] spAre)
    (mi : mg "isinstance" = none) (mT : mg "tuple" = none) (ml : mg "len" = none) :
    FnOk P w K mg base CX0 (k + 2) f fd ["row", "known"] spProb := by
  refine F.ok scProb (fun vs H Q E h => ?_) (fun cdv A outer s H vs Q E hr h => ?_)
  · obtain ⟨t, d, r, kvs, rfl, _⟩ := h
    rfl
  · obtain ⟨t, d, ⟨n, ss⟩, kvs, rfl, ⟨t', sA, e0, ht, hs⟩, hd, h1, h2, h3, h4, h5, q⟩ := h
    cases e0
    have hu := hu_of hr
    refine ⟨_, pss_cons (ps_if (PW.pt (pw_or (pt_not (pt_val (pe_callB call_isi (by rfl) mi (by decide +kernel) (pa_cons (pv 0)
          (pa_cons (pe_bltn (v := .ty "tuple") (by rfl) mT (by decide +kernel : bootBuiltins "tuple" = some (.type "tuple")) rfl) pa_nil)))))
          (pw_or1 (pt_cmpR op_ne (pe_callB call_len_seq (by rfl) ml PySem.boot_len (pa_cons (pv 0) pa_nil)) pe_int (nomark _))))) (pss_one (ps_ret pe_str)) pss_nil)
      (pss_cons (ps_asg (pv 0) (pg_tup (by rfl) (pgs_cons (pg_name (i := 2) scProb.nd rfl (.inl rfl)) (pgs_cons (pg_name (i := 3) scProb.nd rfl (.inl rfl)) pgs_nil))))
      (pss_cons (ps_if (pt_not (pt_val (pe_call GN hr (by rfl) gN FN.kp bN .nil pass0 (pa_cons (pv 2) pa_nil)))) (pss_one (ps_ret pe_str)) pss_nil)
      (pss_cons (ps_if (pt_cmp (pc_din hu (pv 2) (pv 1))) (pss_one (ps_ret pe_str)) pss_nil)
      (pss_cons (ps_if (pt_not (pt_val (pe_call GA hr (by rfl) gA FA.kp bA .nil pass0 (pa_cons (pv 3) (pa_cons (pv 1) pa_nil))))) (pss_one (ps_ret pe_str)) pss_nil)
      (pss_one (ps_ret pe_non)))))), ?_⟩
    refine ⟨.ref t, rfl, .ref t, .ty "tuple", _, _, true, rfl, .ty "tuple", .base (.tup ht), kit_ty (by decide +kernel), true, rfl, iteF ?_⟩
    refine ⟨.ref t, rfl, t, _, rfl, .inr (.inl (.inl ht)), rfl, _, rfl, ?_⟩
    show if (!decide (V.int 2 = V.int 2)) = true then _ else _
    rw [decide_eq_true rfl]
    refine iteF ?_
    refine ⟨.ref t, rfl, t, _, rfl, .inl (.inl ht), rfl, _, _, rfl, _, _, rfl, rfl, ?_⟩
    have gn : Good K H (.str n) := Good.str (name_sm h1)
    refine ⟨.str n, rfl, .str n, rfl, gn, fun H1 s1 => ⟨_, rfl, ?_⟩⟩
    rw [h1]
    refine iteF ?_
    refine ⟨.str n, rfl, .ref d, rfl, d, _, rfl, DGet.k (k := Sum.inr n) (s1 _ _ hd), _, rfl, ?_⟩
    rw [h2]
    refine iteF ?_
    refine ⟨.ref sA, rfl, .ref d, rfl, sA, d, ss, kvs, rfl, s1 _ _ hs, s1 _ _ hd, h5, fun H2 s2 => ⟨_, rfl, ?_⟩⟩
    have e : areV kvs ss = true := by
      unfold areV
      rw [Bool.and_eq_true, List.all_eq_true]
      exact ⟨h3, decide_eq_true (met_nodup h4 _ (Nat.le_refl _))⟩
    rw [e]
    exact iteF (q _ (s1.trans s2))
def spAnc : Sp := fun vs H Q _ => ∃ (n : Str) (a u : Addr) (ss : List Str) (kvs : List (Key × V)) (tab : Tab), vs = [.str n, .ref a, .ref u] ∧ H a = some (.tup (ss.map V.str)) ∧
  H u = some (.dK kvs) ∧ Entries H kvs tab ∧ TabOk tab ∧ tab.length ≤ 100 ∧ (∀ x ∈ ss, x ∈ tabKeys tab) ∧
  ∀ H' F, Same H H' → H F = none → H' F = some (.dK (flag (ancOf tab n ss))) → Q (.ref F) H'
theorem ok_anc {f : Addr} {fd : FuncData} {k : Nat} (F : Fun K "ancestors_of" "ancestors_of" sAnc f fd) :
    FnOk P w K mg base CX0 (k + 1) f fd ["name", "superclasses", "above"] spAnc := by
  refine F.ok scAnc (fun vs H Q E h => ?_) (fun cdv A outer s H vs Q E hr h => ?_)
  · obtain ⟨n, a, u, ss, kvs, tab, rfl, _⟩ := h
    rfl
  · obtain ⟨n, a, u, ss, kvs, tab, rfl, ha, hU, he, hok, hlen, hss, q⟩ := h
    have hu := hu_of hr
    refine ⟨_, pss_cons (ps_set (i := 3) scAnc.nd rfl (.inl rfl) (pe_disp (pps_cons (pv 0) pe_bl pps_nil) (by rfl) (by rfl) (fun z => by cases z) (by decide)))
      (pss_cons (ps_for PassesOwn.never rfl (pi_tup (pv 1)) (pg_name (i := 4) scAnc.nd rfl (.inl rfl))
        (pss_one (ps_lock (ps_for PassesOwn.never rfl (pi_keys (pe_dget hu (pv 2) (pv 4) (fun _ _ => rfl))) (pg_name (i := 5) scAnc.nd rfl (.inl rfl))
          (pss_one (ps_dput hu (pv 3) (pv 5) pe_bl rfl))))))
      (pss_one (ps_ret (pv 3)))), ?_⟩
    refine fun D nD => ⟨.str n, rfl, upd_same, [(Sum.inr n, .bl true)], rfl, (by decide : 1 ≤ 15), ?_⟩
    have sD := same_new2 (o := .dK []) (u := .dK (flag [n])) nD
    have nDu : u ≠ D := ne_of_none hU nD
    refine ⟨.ref a, rfl, a, rfl, ⟨_, .inl (.inl (sD _ _ ha))⟩, ?_⟩
    refine for_tup (xs := ss.map V.str) (fun i σ H3 => ∃ y4 y5 : Option V, σ = [some (.str n), some (.ref a), some (.ref u), some (.ref D), y4, y5] ∧ H3 D = some (.dK (flag (ancAt tab n ss i))) ∧ Same H H3)
      ⟨none, none, rfl, upd_same, sD⟩ (fun i σ H3 _ hP => ?_) (fun i v σ H3 hv hP => ?_) (fun σ H3 hP => ?_)
    · obtain ⟨_, _, _, _, s3⟩ := hP
      exact .inl (.inl (s3 _ _ ha))
    · obtain ⟨y4, y5, rfl, eD, s3⟩ := hP
      rw [List.getElem?_map] at hv
      obtain ⟨x, hx, rfl⟩ : ∃ x, ss[i]? = some x ∧ v = .str x := by
        cases hz : ss[i]? with
        | none =>
          rw [hz] at hv
          cases hv
        | some x =>
          rw [hz] at hv
          exact ⟨x, rfl, (Option.some.inj hv).symm⟩
      have hxk := hss x (List.mem_of_getElem? hx)
      obtain ⟨d, hval, hd⟩ := he.look hxk
      have nDd : d ≠ D := ne_of_none hd nD
      have nud : u ≠ d := by
        intro z
        rw [← z, hU] at hd
        cases Option.some.inj hd
        rw [valV_flag] at hval
        split at hval <;> cases hval
      have d3 := s3 _ _ hd
      refine ⟨d, _, d3, trivial, fun od => ?_⟩
      have u3 : (upd H3 d (.frz od (.dK (flag (look tab x))))) u = some (.dK kvs) := by
        rw [upd_ne nud]
        exact s3 _ _ hU
      have gg := DGet.k (k := Sum.inr x) u3
      rw [hval] at gg
      refine ⟨.ref u, rfl, .str x, rfl, u, .ref d, rfl, gg, d, od, rfl, .inl ⟨_, upd_same, ?_⟩⟩
      refine for_it walk_keys (fun j σ H4 => ∃ y5 : Option V, σ = [some (.str n), some (.ref a), some (.ref u), some (.ref D), some (.str x), y5] ∧ H4 D = some (.dK (flag (addAll (ancAt tab n ss i) ((look tab x).take j)))) ∧
          H4 d = some (.frz od (.dK (flag (look tab x)))) ∧ ∀ b o, b ≠ d → H b = some o → H4 b = some o)
        ⟨y5, rfl, by rw [upd_ne nDd.symm]; exact eD, upd_same, fun b o nb hb => by rw [upd_ne nb]; exact s3 _ _ hb⟩ (fun j σ H4 _ hP => ?_) (fun j v σ H4 H5 hj hP hY => ?_) (fun σ H4 hP => ?_)
      · obtain ⟨_, _, _, e, _⟩ := hP
        exact e
      · obtain ⟨y5, rfl, e1, e2, e3⟩ := hP
        obtain ⟨rfl, k', v', hk, rfl⟩ := hY
        obtain ⟨z, hz, rfl⟩ : ∃ z, (look tab x)[j]? = some z ∧ k' = Sum.inr z := by
          unfold flag at hk
          rw [List.getElem?_map] at hk
          cases hz : (look tab x)[j]? with
          | none =>
            rw [hz] at hk
            cases hk
          | some z =>
            rw [hz] at hk
            cases hk
            exact ⟨z, rfl, rfl⟩
        have ln : (addAll (ancAt tab n ss i) ((look tab x).take j)).length ≤ (n :: tabKeys tab).length := by
          refine nodup_le (addAll_nodup ancOf_nodup) fun y hy => ?_
          rcases mem_addAll.mp hy with g | g
          · rcases mem_ancOf.mp g with rfl | ⟨s', _, g2⟩
            · exact List.mem_cons_self ..
            · exact List.mem_cons_of_mem _ (look_sub hok g2)
          · exact List.mem_cons_of_mem _ (look_sub hok (List.mem_of_mem_take g))
        have lt : (tabKeys tab).length = tab.length := List.length_map _
        rw [List.length_cons, lt] at ln
        refine ⟨.ref D, rfl, .str z, rfl, D, _, rfl, DPut.k (k := Sum.inr z) e1 (by rw [flag_len]; exact sz1 (by omega)), ?_⟩
        refine ⟨_, rfl, ?_, ?_, ?_⟩
        · rw [upd_same, put_flag, addAll_take _ hz]
        · rw [upd_ne nDd]
          exact e2
        · intro b o nb hb
          rw [upd_ne (ne_of_none hb nD)]
          exact e3 b o nb hb
      · obtain ⟨y5, rfl, e1, e2, e3⟩ := hP
        refine ⟨e2, _, _, rfl, ?_, ?_⟩
        · rw [upd_ne nDd.symm, e1, flag_len, List.take_length, ancAt_next hx]
        · intro b o hb
          by_cases z : b = d
          · subst z
            rw [upd_same, ← hd]
            exact hb
          · rw [upd_ne z]
            exact e3 b o z hb
    · obtain ⟨y4, y5, rfl, eD, s3⟩ := hP
      have et : ss.take (ss.map V.str).length = ss := by
        rw [List.length_map, List.take_length]
      unfold ancAt at eD
      rw [et] at eD
      exact ⟨.ref D, rfl, q _ D s3 nD eD⟩
end
end Lw
namespace Lw
open PySem PySem.Spec PyProof.Rows L2 Kv
theorem scInit : FnScope ["self", "classes", "position", "row", "problem", "name", "superclasses"] ["self", "classes"] (defScope m_init) :=
  ⟨rfl, rfl, rfl, by decide +kernel, rfl, by decide +kernel, by decide +kernel⟩
/-- a hierarchy whose own lists and dicts are new since H0 -/
structure HierNw (C : Addr) (H0 H : Hp) (x : Addr) (rows : List Row2) : Prop where
  ex : ∃ (dx r q u : Addr) (rvs : List V) (kvs : List (Key × V)), H x = some (.ins C dx (flds r q u)) ∧ H r = some (.lst rvs) ∧ RowsAre H rvs rows ∧
    H q = some (.dK (placeKV (fsts rows))) ∧ H u = some (.dK kvs) ∧ Entries H kvs (ancTab rows) ∧ H0 r = none ∧ H0 q = none ∧ H0 u = none ∧ ∀ kv ∈ kvs, ∃ d, kv.2 = .ref d ∧ H0 d = none
section
variable {P : Program} {w : World} {K : PySem.W.Frag} {mg : Str → Option Value} {base : Heap}
def spInit (K : PySem.W.Frag) (C : Addr) : Sp := fun vs H Q _ => ∃ (x dx c : Addr) (us : List V) (rows : List Row2), vs = [.ref x, .ref c] ∧ H x = some (.ins C dx []) ∧
  (SqL K H c us ∨ (SqT K H c us ∧ us = [])) ∧ RowsAre H us rows ∧ Valid rows ∧ rows.length ≤ 20 ∧
  ∀ H', HierNw C H H' x rows → But x H H' → Q .non H'
theorem ok_init {f fP fA C : Addr} {fd fdP fdA : FuncData} {k : Nat} {dvs : List V} (F : FunD K "__init__" "Hierarchy.__init__" (defArgs m_init) (defBody m_init) (defScope m_init) dvs [] f fd) (T : HTxt K mg C)
    (FP : Fun K "row_problem" "row_problem" sProb fP fdP) (bP : Binds K fdP ["row", "known"] []) (gP : mg "row_problem" = some (.ref fP))
    (FA : Fun K "ancestors_of" "ancestors_of" sAnc fA fdA) (bA : Binds K fdA ["name", "superclasses", "above"] []) (gA : mg "ancestors_of" = some (.ref fA))
    (GP : FnOk P w K mg base CX0 (k + 2) fP fdP ["row", "known"] spProb) (GA : FnOk P w K mg base CX0 (k + 1) fA fdA ["name", "superclasses", "above"] spAnc)
    (mi : mg "isinstance" = none) (mT : mg "tuple" = none) (mL : mg "list" = none) (me : mg "enumerate" = none) (ml : mg "len" = none) :
    FnOk P w K mg base CX0 (k + 3) f fd ["self", "classes"] (spInit K C) := by
  refine F.ok scInit (fun vs H Q E h => ?_) (fun cdv A outer s H vs Q E hr h => ?_)
  · obtain ⟨x, dx, c, us, rows, rfl, _⟩ := h
    rfl
  · obtain ⟨x, dx, c, us, rows, rfl, hx, hc, hra, hva, hlen, fin⟩ := h
    have hu := hu_of hr
    have hrA := hr.mono (by omega : k + 1 ≤ k + 2)
    refine ⟨_, PSs.nox (pss_cons (ps_if (pt_not (pt_val (pe_callB call_isiT (by rfl) mi (by decide +kernel) (pa_cons (pv 1)
          (pa_cons (pe_tup (pa_cons (pe_bltn (v := .ty "list") (by rfl) mL (by decide +kernel : bootBuiltins "list" = some (.type "list")) rfl)
            (pa_cons (pe_bltn (v := .ty "tuple") (by rfl) mT (by decide +kernel : bootBuiltins "tuple" = some (.type "tuple")) rfl) pa_nil))) pa_nil))))) (pss_one ps_never) pss_nil)
      (pss_cons (ps_fld (pv 0) (pe_lst pa_nil) rfl)
      (pss_cons (ps_fld (pv 0) pe_dnewK rfl)
      (pss_cons (ps_fld (pv 0) pe_dnewK rfl)
      (pss_cons (ps_for PassesOwn.never rfl (pi_enumS (by rfl) me (pa_cons (pv 1) pa_nil))
          (pg_tup rfl (pgs_cons (pg_name (i := 2) scInit.nd rfl (.inl rfl)) (pgs_cons (pg_name (i := 3) scInit.nd rfl (.inl rfl)) pgs_nil)))
        (pss_cons (ps_set (i := 4) scInit.nd rfl (.inl rfl) (pe_call GP hr (by rfl) gP FP.kp bP .nil pass0 (pa_cons (pv 3) (pa_cons (pe_fld (pv 0) rfl) pa_nil))))
        (pss_cons (ps_if (pt_cmpR op_notN (pv 4) pe_non (nomark _)) (pss_one ps_never) pss_nil)
        (pss_cons (ps_asg (pv 3) (pg_tup (by rfl) (pgs_cons (pg_name (i := 5) scInit.nd rfl (.inl rfl)) (pgs_cons (pg_name (i := 6) scInit.nd rfl (.inl rfl)) pgs_nil))))
        (pss_cons (ps_expr (pe_bm PySem.F.plainAttrs_list PySem.F.slot_list_append PySem.F.type_list_append mt_append (pe_fld (pv 0) rfl)
            (pa_cons (pe_tup (pa_cons (pv 5) (pa_cons (pv 6) pa_nil))) pa_nil)))
        (pss_cons (ps_dput hu (pe_fld (pv 0) rfl) (pv 5) (pv 2) rfl)
        (pss_one (ps_dput hu (pe_fld (pv 0) rfl) (pv 5) (pe_call GA hrA (by rfl) gA FA.kp bA .nil pass0 (pa_cons (pv 5) (pa_cons (pv 6) (pa_cons (pe_fld (pv 0) rfl) pa_nil)))) rfl))))))))
      (pss_one (ps_if (pt_cmpR op_gt (pe_callB call_len_seq (by rfl) ml PySem.boot_len (pa_cons (pe_fld (pv 0) rfl) pa_nil)) (ClX.pe_cval (pe_glob (v := .ref C) (by rfl) T.mgC rfl)) (nomark _)) (pss_one ps_never) pss_nil))))))), ?_⟩
    obtain ⟨T0, hty, hkit⟩ : ∃ T0 : String, (∀ H', Same H H' → TyX K H' (.ref c) (.type T0)) ∧ PySem.W.kitAny K (.type T0) [.type "list", .type "tuple"] = some true := by
      rcases hc with hc | ⟨hc, _⟩
      · exact ⟨"list", fun H' s' => tyL (s'.seq hc), kitAny_cons (kit_ty (by decide +kernel : kitB "list" "list" = some true)) (fun z => nomatch z) (fun _ => rfl)⟩
      · exact ⟨"tuple", fun H' s' => tyT (sqT_same hc s'), kitAny_cons (kit_ty (by decide +kernel : kitB "tuple" "list" = some false))
          (fun _ => kitAny_cons (kit_ty (by decide +kernel : kitB "tuple" "tuple" = some true)) (fun z => nomatch z) (fun _ => rfl)) (fun z => nomatch z)⟩
    refine ⟨.ref c, rfl, (by decide : 2 ≤ sizeLine), fun tp ntp => ?_⟩
    have s0 := same_new (o := .tup [.ty "list", .ty "tuple"]) ntp
    refine ⟨.ref c, tp, [.ty "list", .ty "tuple"], _, [.type "list", .type "tuple"], true, rfl, upd_same, .cons (.ty _) (.cons (.ty _) .nil), hty _ s0, hkit, true, rfl, iteF ?_⟩
    have x0 := s0 _ _ hx
    refine ⟨(by decide : 0 ≤ sizeLine), fun r nr => ?_⟩
    have nxr : x ≠ r := ne_of_none x0 nr
    refine ⟨.ref x, rfl, x, C, dx, [], rfl, (by rw [upd_ne nxr]; exact x0), T.cl, T.nR, (by show 0 < 1000; decide), ?_⟩
    intro q nq
    have nxq : x ≠ q := ne_of_none upd_same nq
    have nrq : r ≠ q := ne_of_none (o := .lst []) (by rw [upd_ne nxr.symm, upd_same]) nq
    refine ⟨.ref x, rfl, x, C, dx, _, rfl, (by rw [upd_ne nxq, upd_same]), T.cl, T.nP, (by show 1 < 1000; decide), ?_⟩
    intro u nu
    have nxu : x ≠ u := ne_of_none upd_same nu
    have nqu : q ≠ u := ne_of_none (o := .dK []) (by rw [upd_ne nxq.symm, upd_same]) nu
    have nru : r ≠ u := ne_of_none (o := .lst []) (by rw [upd_ne nxr.symm, upd_ne nrq, upd_ne nxr.symm, upd_same]) nu
    refine ⟨.ref x, rfl, x, C, dx, _, rfl, (by rw [upd_ne nxu, upd_same]), T.cl, T.nA, two_flds r q, ?_⟩
    have nr0 : H r = none := s0.free nr
    have nq0 : H q = none := by
      have : (upd (upd H tp (.tup [.ty "list", .ty "tuple"])) r (.lst [])) q = none := by
        rw [upd_ne nxq.symm] at nq
        exact nq
      exact s0.free ((same_new nr).free this)
    have nu0 : H u = none := by
      rw [upd_ne nxu.symm, upd_ne nqu.symm, upd_ne nxu.symm] at nu
      exact s0.free ((same_new nr).free nu)
    have P0 : ∃ (y2 y3 y4 y5 y6 : Option V) (rvs : List V) (kvs : List (Key × V)), ([some (.ref x), some (.ref c), none, none, none, none, none] : List (Option V)) = [some (.ref x), some (.ref c), y2, y3, y4, y5, y6] ∧
        (upd (upd (upd (upd (upd (upd (upd H tp (.tup [.ty "list", .ty "tuple"])) r (.lst [])) x (.ins C dx (putF "rows" (.ref r) []))) q (.dK [])) x (.ins C dx (putF "places" (.ref q) (putF "rows" (.ref r) [])))) u (.dK [])) x (.ins C dx (flds r q u))) x = some (.ins C dx (flds r q u)) := ⟨none, none, none, none, none, [], [], rfl, upd_same⟩
    clear P0
    generalize hG : (upd (upd (upd (upd (upd (upd (upd H tp (.tup [.ty "list", .ty "tuple"])) r (.lst [])) x (.ins C dx (putF "rows" (.ref r) []))) q (.dK [])) x (.ins C dx (putF "places" (.ref q) (putF "rows" (.ref r) [])))) u (.dK [])) x (.ins C dx (putF "above" (.ref u) (putF "places" (.ref q) (putF "rows" (.ref r) []))))) = G
    have gx : G x = some (.ins C dx (flds r q u)) := by
      rw [← hG]
      exact upd_same
    have gr : G r = some (.lst []) := by
      rw [← hG, upd_ne nxr.symm, upd_ne nru, upd_ne nxr.symm, upd_ne nrq, upd_ne nxr.symm, upd_same]
    have gq : G q = some (.dK []) := by
      rw [← hG, upd_ne nxq.symm, upd_ne nqu, upd_ne nxq.symm, upd_same]
    have gu : G u = some (.dK []) := by
      rw [← hG, upd_ne nxu.symm, upd_same]
    have gb : But x H G := by
      intro b o nb hb
      rw [← hG, upd_ne nb, upd_ne (ne_of_none hb nu0), upd_ne nb, upd_ne (ne_of_none hb nq0), upd_ne nb, upd_ne (ne_of_none hb nr0)]
      exact s0 _ _ hb
    clear hG
    obtain ⟨Pv, hPv⟩ : ∃ Pv : Nat → L2.St → Hp → Prop, Pv = fun i σ H4 => ∃ (y2 y3 y4 y5 y6 : Option V) (rvs : List V) (kvs : List (Key × V)), σ = [some (.ref x), some (.ref c), y2, y3, y4, y5, y6] ∧
        H4 x = some (.ins C dx (flds r q u)) ∧ H4 r = some (.lst rvs) ∧ RowsAre H4 rvs (rows.take i) ∧ H4 q = some (.dK (placeKV (fsts (rows.take i)))) ∧ H4 u = some (.dK kvs) ∧
        Entries H4 kvs (ancTab (rows.take i)) ∧ (∀ kv ∈ kvs, kv.2 ≠ .ref q ∧ kv.2 ≠ .ref u ∧ kv.2 ≠ .ref r ∧ ∃ d, kv.2 = .ref d ∧ H d = none) ∧ But x H H4 := ⟨_, rfl⟩
    have start : Pv 0 [some (.ref x), some (.ref c), none, none, none, none, none] G := by
      rw [hPv]
      exact ⟨none, none, none, none, none, [], [], rfl, gx, gr, .nil, gq, gu, .nil, fun kv h => (nomatch h), gb⟩
    have lenU : us.length = rows.length := hra.length
    refine ⟨.ref c, rfl, ?_⟩
    rcases hc with hc | ⟨hc, hemp⟩
    · refine .inl ⟨c, us, rfl, sqL_but hc hx gb, ?_⟩
      refine for_it (walk_enum (xs := us)) Pv start (fun i σ H4 _ hP => ?_) (fun i v σ H4 H5 hi hP hY => ?_) (fun σ H4 hP => ?_)
      · rw [hPv] at hP
        obtain ⟨_, _, _, _, _, _, _, _, _, _, _, _, _, _, _, b4⟩ := hP
        exact sqL_but hc hx b4
      · rw [hPv] at hP
        obtain ⟨y2, y3, y4, y5, y6, rvs, kvs, rfl, ex, er, era, eq, eu, een, ene, b4⟩ := hP
        obtain ⟨T5, a5, v5, rfl, nT5, rfl, ea5, ev5⟩ := hY
        cases Option.some.inj ea5
        obtain ⟨⟨n, ss⟩, hrow, hRA⟩ := hra.get ev5
        obtain ⟨t, sA, rfl, ht, hsA⟩ := id hRA
        obtain ⟨v1, v2, v3, v4⟩ := hva i n ss hrow
        have il : i < rows.length := by omega
        have s5 := same_new (o := .tup [.int (i : Nat), .ref t]) nT5
        have RA4 : RowAt H4 (.ref t) (n, ss) := hRA.butX hx (by intro xs z; cases z) b4
        have lf : (fsts (rows.take i)).length = i := by
          unfold fsts
          rw [List.length_map, List.length_take]
          omega
        have ssl : ss.length ≤ i := by
          have := nodup_le v3 v4
          omega
        refine ⟨T5, [.int (i : Nat), .ref t], rfl, .inl (.inl upd_same), rfl, _, _, rfl, _, _, rfl, rfl, ?_⟩
        -- problem
        refine ⟨.ref t, rfl, .ref x, rfl, x, C, dx, _, _, rfl, s5 _ _ ex, T.cl, T.nP, flds_places r q u, t, q, (n, ss), _, rfl, RA4.same s5, s5 _ _ eq, v1, ?_, ?_, v3, (by show ss.length ≤ 100; omega), fun H6 s6 => ?_⟩
        · have := place_val n (fsts (rows.take i))
          rw [decide_eq_false v2] at this
          exact Option.isNone_iff_eq_none.mp (by rw [← Option.not_isSome, this]; rfl)
        · intro y hy
          rw [place_val]
          exact decide_eq_true (v4 y hy)
        have vn : valV (placeKV (fsts (rows.take i))) (Sum.inr n : Key) = none := by
          have := place_val n (fsts (rows.take i))
          rw [decide_eq_false v2] at this
          exact Option.isNone_iff_eq_none.mp (by rw [← Option.not_isSome, this]; rfl)
        have s46 := s5.trans s6
        refine ⟨.non, rfl, rfl, _, rfl, iteF ?_⟩
        -- name, superclasses = row
        refine ⟨.ref t, rfl, t, _, rfl, .inl (.inl (b4.trans (But.of_same s46) t _ (ne_of ht hx (by intro z; cases z)) ht)), rfl, _, _, rfl, _, _, rfl, rfl, ?_⟩
        -- self.rows.append(..)
        have r6 := s46 _ _ er
        refine ⟨.ref x, rfl, x, C, dx, _, _, rfl, s46 _ _ ex, T.cl, T.nR, flds_rows r q u, .inl ⟨rfl, _, .inl (.inl r6)⟩, .str n, rfl, .ref sA, rfl, (by decide : 2 ≤ sizeLine), fun w7 n7 => ?_⟩
        have s7 := same_new (o := .tup [.str n, .ref sA]) n7
        have s47 := s46.trans s7
        have r7 := s47 _ _ er
        have lr : rvs.length = i := by
          have := era.length
          rw [List.length_take] at this
          omega
        refine ⟨r, rvs, _, rfl, rfl, r7, sz1 (by omega), ?_⟩
        have x8 : ∀ o, (upd (upd H6 w7 (.tup [.str n, .ref sA])) r o) x = some (.ins C dx (flds r q u)) := fun o => by
          rw [upd_ne nxr]
          exact s47 _ _ ex
        have q8 : ∀ o, (upd (upd H6 w7 (.tup [.str n, .ref sA])) r o) q = some (.dK (placeKV (fsts (rows.take i)))) := fun o => by
          rw [upd_ne nrq.symm]
          exact s47 _ _ eq
        have u8 : ∀ o, (upd (upd H6 w7 (.tup [.str n, .ref sA])) r o) u = some (.dK kvs) := fun o => by
          rw [upd_ne nru.symm]
          exact s47 _ _ eu
        -- self.places[name] = position
        refine ⟨.int (i : Nat), rfl, .ref x, rfl, x, C, dx, _, _, rfl, x8 _, T.cl, T.nP, flds_places r q u, .str n, rfl, q, _, rfl, DPut.k (k := Sum.inr n) (q8 _) (by rw [place_len]; exact sz1 (by omega)), ?_⟩
        rw [putK_new _ vn]
        generalize hM : upd (upd (upd H6 w7 (.tup [.str n, .ref sA])) r (.lst (rvs ++ [.ref w7]))) q (.dK (placeKV (fsts (rows.take i)) ++ [(Sum.inr n, .int (i : Nat))])) = M
        have mx : M x = some (.ins C dx (flds r q u)) := by
          rw [← hM, upd_ne nxq]
          exact x8 _
        have mr : M r = some (.lst (rvs ++ [.ref w7])) := by
          rw [← hM, upd_ne nrq, upd_same]
        have mq : M q = some (.dK (placeKV (fsts (rows.take i)) ++ [(Sum.inr n, .int (i : Nat))])) := by
          rw [← hM, upd_same]
        have mu : M u = some (.dK kvs) := by
          rw [← hM, upd_ne nqu.symm]
          exact u8 _
        have mra : RowsAre M (rvs ++ [.ref w7]) (rows.take i ++ [(n, ss)]) := by
          rw [← hM]
          refine RowsAre.wrX (q8 _) (by intro xs z; cases z) (RowsAre.wrX r7 (by intro xs z; cases z) ?_)
          refine RowsAre.snoc (era.same s47) ⟨w7, sA, rfl, upd_same, ?_⟩
          exact s47 _ _ (b4 _ _ (ne_of hsA hx (by intro z; cases z)) hsA)
        have men : Entries M kvs (ancTab (rows.take i)) := by
          rw [← hM]
          refine Entries.wr (Entries.wr (een.mono fun d as e => s47 _ _ e) fun kv hk => (ene kv hk).2.2.1) fun kv hk => (ene kv hk).1
        have mb : But x H M := by
          intro b o nb hb
          rw [← hM, upd_ne (ne_of_none hb nq0), upd_ne (ne_of_none hb nr0)]
          exact s47 _ _ (b4 _ _ nb hb)
        clear hM
        have msA := mb _ _ (ne_of hsA hx (by intro z; cases z)) hsA
        -- ancestors_of(name, superclasses, self.above)
        refine ⟨.str n, rfl, .ref sA, rfl, .ref x, rfl, x, C, dx, _, _, rfl, mx, T.cl, T.nA, flds_above r q u, n, sA, u, ss, kvs, ancTab (rows.take i), rfl, msA, mu, men, ancTab_ok rows i, ?_, ?_, fun H9 F9 s9 nF9 eF9 => ?_⟩
        · have := ancTab_keys (rows.take i)
          have e2 := congrArg List.length this
          unfold tabKeys at e2
          rw [List.length_map, lf] at e2
          omega
        · intro y hy
          rw [ancTab_keys]
          exact v4 y hy
        have kl : kvs.length = i := by
          have h1 := men.length
          have := ancTab_keys (rows.take i)
          have e2 := congrArg List.length this
          unfold tabKeys at e2
          rw [List.length_map, lf] at e2
          omega
        have kn : valV kvs (Sum.inr n : Key) = none := men.none (by rw [ancTab_keys]; exact v2)
        refine ⟨.ref x, rfl, x, C, dx, _, _, rfl, s9 _ _ mx, T.cl, T.nA, flds_above r q u, .str n, rfl, u, _, rfl, DPut.k (k := Sum.inr n) (s9 _ _ mu) (sz1 (by omega)), ?_⟩
        rw [putK_new _ kn, hPv]
        have tk1 : rows.take (i + 1) = rows.take i ++ [(n, ss)] := by
          rw [List.take_add_one, hrow]
          rfl
        refine ⟨_, _, _, _, _, rvs ++ [.ref w7], kvs ++ [(Sum.inr n, .ref F9)], rfl, ?_, ?_, ?_, ?_, upd_same, ?_, ?_, ?_⟩
        · rw [upd_ne nxu]
          exact s9 _ _ mx
        · rw [upd_ne nru]
          exact s9 _ _ mr
        · rw [tk1]
          exact RowsAre.wrX (s9 _ _ mu) (by intro xs z; cases z) (mra.same s9)
        · rw [upd_ne nqu, tk1, fsts_snoc, place_snoc, lf]
          exact s9 _ _ mq
        · rw [tk1, ancTab_snoc]
          refine Entries.wr (Entries.snoc (men.mono fun d as e => s9 _ _ e) ⟨rfl, F9, rfl, eF9⟩) ?_
          intro kv hk
          rcases List.mem_append.mp hk with z | z
          · exact (ene kv z).2.1
          · rw [List.mem_singleton.mp z]
            intro z2
            cases z2
            rw [mu] at nF9
            cases nF9
        · intro kv hk
          rcases List.mem_append.mp hk with z | z
          · exact ene kv z
          · rw [List.mem_singleton.mp z]
            refine ⟨fun z2 => ?_, fun z2 => ?_, fun z2 => ?_, F9, rfl, ?_⟩
            · cases z2
              rw [mq] at nF9
              cases nF9
            · cases z2
              rw [mu] at nF9
              cases nF9
            · cases z2
              rw [mr] at nF9
              cases nF9
            · cases hF : H F9 with
              | none => rfl
              | some o =>
                have nx : F9 ≠ x := fun z2 => by
                  rw [z2, mx] at nF9
                  cases nF9
                rw [mb F9 o nx hF] at nF9
                cases nF9
        · intro b o nb hb
          rw [upd_ne (ne_of_none hb nu0)]
          exact s9 _ _ (mb _ _ nb hb)
      · rw [hPv] at hP
        obtain ⟨y2, y3, y4, y5, y6, rvs, kvs, rfl, ex, er, era, eq, eu, een, ene, b4⟩ := hP
        have tk : rows.take us.length = rows := List.take_of_length_le (by omega)
        rw [tk] at era eq een
        have lr := era.length
        obtain ⟨mc, ul, h1, h2⟩ := T.lim
        refine ⟨.ref x, rfl, x, C, dx, _, _, rfl, ex, T.cl, T.nR, flds_rows r q u, r, rvs, rfl, .inl (.inl (.inl er)), C, mc, .int 20, ul, rfl, h1, h2, _, _, rfl, rfl, _, rfl, ?_⟩
        rw [decide_eq_false (by omega : ¬ (rvs.length : Int) > 20)]
        exact iteF (fin _ ⟨dx, r, q, u, rvs, kvs, ex, er, era, eq, eu, een, nr0, nq0, nu0, fun kv hk => (ene kv hk).2.2.2⟩ b4)
    · subst hemp
      have hr0 : rows = [] := List.eq_nil_of_length_eq_zero (by
        have : ([] : List V).length = 0 := rfl
        omega)
      refine .inr ⟨c, [], rfl, sqT_but hc hx gb, ?_⟩
      refine for_it (walk_enumT (xs := [])) Pv start (fun i σ H4 _ hP => ?_) (fun i v σ H4 H5 hi hP hY => ?_) (fun σ H4 hP => ?_)
      · rw [hPv] at hP
        obtain ⟨_, _, _, _, _, _, _, _, _, _, _, _, _, _, _, b4⟩ := hP
        exact sqT_but hc hx b4
      · exact absurd hi (Nat.not_lt_zero _)
      · rw [hPv] at hP
        obtain ⟨y2, y3, y4, y5, y6, rvs, kvs, rfl, ex, er, era, eq, eu, een, ene, b4⟩ := hP
        have tk : rows.take ([] : List V).length = rows := by
          rw [hr0]
          rfl
        rw [tk] at era eq een
        have lr := era.length
        obtain ⟨mc, ul, h1, h2⟩ := T.lim
        refine ⟨.ref x, rfl, x, C, dx, _, _, rfl, ex, T.cl, T.nR, flds_rows r q u, r, rvs, rfl, .inl (.inl (.inl er)), C, mc, .int 20, ul, rfl, h1, h2, _, _, rfl, rfl, _, rfl, ?_⟩
        rw [decide_eq_false (by omega : ¬ (rvs.length : Int) > 20)]
        exact iteF (fin _ ⟨dx, r, q, u, rvs, kvs, ex, er, era, eq, eu, een, nr0, nq0, nu0, fun kv hk => (ene kv hk).2.2.2⟩ b4)
end
end Lw
/-! A hierarchy as a tree; its making. -/
namespace Lw
open PySem PySem.Spec PyProof.Rows L2 Kv Pu
theorem flds_eq (r q u : Addr) : flds r q u = [(("rows" : Str), V.ref r), (("places" : Str), V.ref q), (("above" : Str), V.ref u)] := by
  have h1 : ¬ (("rows" : Str) = "places") := Kv.f2
  have h2 : ¬ (("rows" : Str) = "above") := Kv.f1
  have h3 : ¬ (("places" : Str) = "above") := Kv.f3
  simp only [flds, putF, if_neg h1, if_neg h2, if_neg h3]
theorem flds_fst (r q u : Addr) : (flds r q u).map (·.1) = [("rows" : Str), "places", "above"] := by rw [flds_eq]; rfl
theorem flds_snd (r q u : Addr) : (flds r q u).map (·.2) = [V.ref r, .ref q, .ref u] := by rw [flds_eq]; rfl
section
variable {K : PySem.W.Frag} {ok : Addr → Prop} {H : Hp}
theorem row_at {v : V} {d : D} {r : Row2} (h : Rep K ok H v d) (e : rowOf d = some r) : RowAt H v r := by
  unfold rowOf at e
  split at e
  · rename_i n ss
    obtain ⟨xs, ex, rfl⟩ := map_some e
    cases h with
    | tup ht rs =>
      cases rs with
      | cons r1 rr =>
        cases rr with
        | cons r2 r3 =>
          cases r3
          cases r1
          cases r2 with
          | tup hs rss =>
            have := rss.strs ex
            subst this
            exact ⟨_, _, rfl, ht, hs⟩
  · cases e
theorem rows_are : ∀ {vs : List V} {ds : List D} {rows : List Row2}, Reps K ok H vs ds → rowsOf' ds = some rows → RowsAre H vs rows
  | _, _, _, .nil, h => by cases h; exact .nil
  | _, _, _, .cons (d := d) (ds := ds) r t, h => by
    unfold rowsOf' at h
    cases e1 : rowOf d with
    | none => rw [e1] at h; cases h
    | some p =>
      cases e2 : rowsOf' ds with
      | none => rw [e1, e2] at h; cases h
      | some ps => rw [e1, e2] at h; cases h; exact .cons (row_at r e1) (rows_are t e2)
theorem reps_strs : ∀ xs : List Str, Reps K ok H (xs.map V.str) (xs.map D.str)
  | [] => .nil
  | x :: xs => .cons (.str x) (reps_strs xs)
theorem row_rep {v : V} {r : Row2} (h : RowAt H v r) : Rep K ok H v (rowD r) := by
  obtain ⟨t, u, rfl, h1, h2⟩ := h
  exact .tup h1 (.cons (.str _) (.cons (.tup h2 (reps_strs _)) .nil))
theorem rows_rep : ∀ {vs : List V} {rows : List Row2}, RowsAre H vs rows → Reps K ok H vs (rows.map rowD)
  | _, _, .nil => .nil
  | _, _, .cons a t => .cons (row_rep a) (rows_rep t)
theorem flag_rep {d : Addr} {as : List Str} (h : RdO ok H d (.dK (flag as))) : Rep K ok H (.ref d) (flagD as) := by
  have e1 : (flag as).map (·.1) = as.map (Sum.inr : Str → Key) := by unfold flag; rw [List.map_map]; rfl
  have e2 : (flag as).map (·.2) = as.map fun _ => V.bl true := by unfold flag; rw [List.map_map]; rfl
  have r : Reps K ok H ((flag as).map (·.2)) (as.map fun _ => D.bl true) := by
    rw [e2]
    clear h e1 e2
    induction as with
    | nil => exact .nil
    | cons _ _ ih => exact .cons (.bl true) ih
  have := Rep.dic h r
  rw [e1] at this
  exact this
theorem entries_rep : ∀ {kvs : List (Key × V)} {tab : Tab}, Entries H kvs tab → (∀ kv ∈ kvs, ∃ d, kv.2 = .ref d ∧ ok d) → kvs.map (·.1) = tab.map (fun p => (Sum.inr p.1 : Key)) ∧ Reps K ok H (kvs.map (·.2)) (tab.map fun p => flagD p.2)
  | _, _, .nil, _ => ⟨rfl, .nil⟩
  | kv :: kvs, p :: tab, .cons ⟨e1, d, e2, e3⟩ t, hk => by
    obtain ⟨i1, i2⟩ := entries_rep t fun kv h => hk kv (List.mem_cons_of_mem _ h)
    obtain ⟨d', e4, k⟩ := hk kv (List.mem_cons_self ..)
    rw [e2] at e4
    cases e4
    refine ⟨by rw [List.map_cons, List.map_cons, i1, e1], ?_⟩
    rw [List.map_cons, List.map_cons, e2]
    exact .cons (flag_rep (.inl ⟨e3, k⟩)) i2
theorem places_rep (ns : List Str) : (placeKV ns).map (·.1) = ns.map (Sum.inr : Str → Key) ∧ Reps K ok H ((placeKV ns).map (·.2)) (idxD ns.length) := by
  have e1 : (placeKV ns).map (·.1) = ns.map (Sum.inr : Str → Key) := by
    unfold placeKV
    rw [List.map_map]
    show (ns.zipIdx.map fun p => (Sum.inr p.1 : Key)) = _
    have : ns.zipIdx.map Prod.fst = ns := List.zipIdx_map_fst ..
    conv => rhs; rw [← this, List.map_map]
    rfl
  have e2 : (placeKV ns).map (·.2) = (List.range ns.length).map fun i => V.int (i : Nat) := by
    unfold placeKV
    rw [List.map_map]
    show (ns.zipIdx.map fun p => V.int (p.2 : Nat)) = _
    have : ns.zipIdx.map Prod.snd = List.range ns.length := by rw [List.zipIdx_map_snd, List.range_eq_range']
    rw [← this, List.map_map]
    rfl
  refine ⟨e1, ?_⟩
  rw [e2]
  unfold idxD
  have : ∀ l : List Nat, Reps K ok H (l.map fun i => V.int (i : Nat)) (l.map fun i => D.int (i : Nat)) := fun l => by
    induction l with
    | nil => exact .nil
    | cons a l ih => exact .cons (.int _) ih
  exact this _
end
section
variable {X : Cx} {g : Gx} {E : Wx} {k : Nat} {C f : Addr} {fd : FuncData} {e : Expr} {fe : P D} {p pos : Pos}
theorem er_makeH (M : Mk X.K C f) (F : FnOk X.prog X.w X.K X.mg X.base CX0 k f fd ["self", "classes"] (spInit X.K C)) (hr : Room (k + 1) X.A) (hg : Gl X "Hierarchy") (hm : X.mg "Hierarchy" = some (.ref C)) (hb : Binds X.K fd ["self", "classes"] [])
    (he : EV X g E e fe) (hst : starEach [e] X.env = [(false, eval e X.env)] := by rfl) : ER X g E (.Call (.Name "Hierarchy" p) [e] [] pos) (bnd fe fun d => lft (mkH C d)) := by
  refine PE_imp (pe_make M F hr hg hm hb .nil pass0 (pa_cons he pa_nil hst) (by decide) hst rfl) fun σ H Q hq => ?_
  obtain ⟨ok, ρ, w, h⟩ := hq
  refine ⟨ok, ρ, w, (Rs.bnd (RA := relD X.K) h).mono fun v H1 hq => ?_⟩
  obtain ⟨ok1, ρ1, d, w1, s1, r1, h1⟩ := hq
  have r1 : Rep X.K ok1 H1 v d := r1
  unfold lft mkH at h1
  cases er : rowsOf d with
  | none => simp only [er] at h1; exact h1.elim
  | some rows =>
    simp only [er] at h1
    split at h1
    · rename_i hv
      split at hv
      · rename_i hz
        cases hv
        obtain ⟨hva, hlen⟩ := hz
        unfold rowsOf at er
        split at er
        · rename_i ds
          cases r1 with
          | lst hc kc rs =>
            rename_i c us
            intro x dx nx ndx ndxx
            have hn : ∀ {a : Addr} {o : HO}, H1 a = some o → (upd (upd H1 dx (.own x)) x (.ins C dx [])) a = some o := fun {a o} ha => by rw [upd_ne (ne_of_none ha nx), upd_ne (ne_of_none ha ndx)]; exact ha
            have sm : Same H1 (upd (upd H1 dx (.own x)) x (.ins C dx [])) := fun a o ha => hn ha
            have nn : ∀ {a : Addr}, (upd (upd H1 dx (.own x)) x (.ins C dx [])) a = none → H1 a = none := fun {a} ha => sm.free ha
            refine ⟨x, dx, c, us, rows, rfl, upd_same, .inl (.inl (.inl (hn hc))), (rows_are rs er).same sm, hva, hlen, fun H' hh hb' => ⟨rfl, ?_⟩⟩
            have keep : ∀ a o, H1 a = some o → H' a = some o := fun a o ha => hb' a o (ne_of_none ha nx) (hn ha)
            have all : ∀ a, H' a = none → H1 a = none := fun a ha => by
              cases e1 : H1 a with
              | none => rfl
              | some o => rw [keep a o e1] at ha; cases ha
            have fr : Fr ok1 H1 ok1 H' := .of (fun a o ha _ => keep a o ha) (fun _ _ _ k => k) all
            have w2 : Wf X.K g ok1 ρ1 σ H' := w1.step fr (fun a ha => w1.fc a (all a ha)) fun i e q hi hq => by
              obtain ⟨q', e', o, nk, _⟩ := w1.own i e hi
              rw [hq] at e'
              cases e'
              obtain ⟨u, hu, _⟩ := o.there
              exact ⟨by rw [hu]; exact keep q u hu, nk⟩
            obtain ⟨dx', r, q, u, rvs, kvs, g1, g2, g3, g4, g5, g6, n1, n2, n3, n4⟩ := hh.ex
            refine h1 _ H' ok1 w2 ⟨fr, fun a o ha _ => .inl (keep a o ha), fun _ z => z, fun _ _ _ k => .inl k⟩ ?_
            obtain ⟨p1, p2⟩ := places_rep (K := X.K) (ok := ok1) (H := H') (fsts rows)
            obtain ⟨q1, q2⟩ := entries_rep (K := X.K) (ok := ok1) g6 fun kv hk => by
              obtain ⟨d', ed, nd⟩ := n4 kv hk
              exact ⟨d', ed, w1.fc d' (nn nd)⟩
            have t1 := Rep.dic (K := X.K) (.inl ⟨g4, w1.fc q (nn n2)⟩) p2
            have t2 := Rep.dic (K := X.K) (.inl ⟨g5, w1.fc u (nn n3)⟩) q2
            rw [p1] at t1
            rw [q1] at t2
            have lf : (fsts rows).length = rows.length := by unfold fsts; rw [List.length_map]
            rw [lf] at t1
            have ns := flds_fst r q u
            have vs := flds_snd r q u
            have rr : Reps X.K ok1 H' ((flds r q u).map (·.2)) [.lst (rows.map rowD), .dic ((fsts rows).map Sum.inr) (idxD rows.length), .dic ((ancTab rows).map fun p => Sum.inr p.1) ((ancTab rows).map fun p => flagD p.2)] := by
              rw [vs]
              exact .cons (.lst g2 (w1.fc r (nn n1)) (rows_rep g3)) (.cons t1 (.cons t2 .nil))
            have := Rep.obj (K := X.K) (ok := ok1) g1 rr
            rw [ns] at this
            exact this
        · cases er
      · cases hv
    · exact h1.elim
end
end Lw
/-! a, b = x, y; Hierarchy(rows) as a bundle. -/
namespace Pu
open PySem PySem.Spec PyProof.Rows L2 Kv
section
variable {X : Cx} {g : Gx} {E : Wx} {x y : Str} {a b : Expr} {i j : Nat} {fr : P (List D)} {px py pt pos : Pos}
theorem es_par {kt k2 pt2} (hc : X.calm = true) (hN : X.N.Nodup) (hi : X.N[i]? = some x) (hj : X.N[j]? = some y) (hij : i ≠ j) (hBi : i ∉ g.B) (hBj : j ∉ g.B)
    (hx : X.env.scope.names.lookup x = some .local) (hy : X.env.scope.names.lookup y = some .local) (ha : EA X g E [a, b] fr)
    (hw : swappedStores [.Tuple [.Name x px, .Name y py] kt pt] (.Tuple [a, b] k2 pt2) X.env = pure (some [x, y]))
    (hs : swapsWithSole [.Tuple [.Name x px, .Name y py] kt pt] (.Tuple [a, b] k2 pt2) pos.line X.env = pure false := by rfl) :
    ES X g E (.Assign [.Tuple [.Name x px, .Name y py] kt pt] (.Tuple [a, b] k2 pt2) pos) (sb fr fun ds => par2 i j ds) := by
  refine PS_imp (ps_par hc hN hi hj hij hx hy ha hw hs) fun Dn σ H hq => ?_
  obtain ⟨ok, ρ, w, h⟩ := hq
  refine ⟨ok, ρ, w, (Ss.sb (RA := relA X.K) h).mono fun vs H1 hq => ?_⟩
  obtain ⟨ok1, ρ1, ds, w1, s1, r1, h1⟩ := hq
  have r1 : Reps X.K ok1 H1 vs ds := r1
  unfold par2 at h1
  split at h1
  · cases r1 with
    | cons q1 rr =>
      cases rr with
      | cons q2 r3 =>
        cases r3
        exact ⟨_, _, rfl, h1 _ H1 ok1 ((w1.set q1).set q2) ((Sy.set hBi (fun _ z => by cases z)).trans (Sy.set hBj (fun _ z => by cases z)))⟩
  · exact h1.elim
end
end Pu
namespace Lw
open PySem PySem.Spec PyProof.Rows L2 Kv Pu
structure MkHi (P' : Program) (w : World) (K : PySem.W.Frag) (mg : Str → Option Value) (base : Heap) (C : Addr) (k : Nat) : Prop where
  ex : ∃ f fd, Mk K C f ∧ FnOk P' w K mg base CX0 k f fd ["self", "classes"] (spInit K C) ∧ mg "Hierarchy" = some (.ref C) ∧ Binds K fd ["self", "classes"] []
theorem er_makeHC {X : Cx} {g : Gx} {E : Wx} {k : Nat} {C : Addr} {e : Expr} {fe : P D} {p pos : Pos} (c : MkHi X.prog X.w X.K X.mg X.base C k) (hr : Room (k + 1) X.A) (hg : Gl X "Hierarchy") (he : EV X g E e fe) (hst : starEach [e] X.env = [(false, eval e X.env)] := by rfl) :
    ER X g E (.Call (.Name "Hierarchy" p) [e] [] pos) (bnd fe fun d => lft (mkH C d)) := by
  obtain ⟨f, fd, M, F, hm, hb⟩ := c.ex
  exact er_makeH M F hr hg hm hb he hst
end Lw
namespace Lw
open PySem PySem.Spec PyProof.Rows L2 Kv Pu Fk
theorem hu64_of {k : Nat} {A : Around} (r : Room k A) : A.units + 64 < cLine := by have := r.un; omega
theorem law_mk {P' : Program} {w : World} {K : PySem.W.Frag} {mg : Str → Option Value} {base : Heap} {x : Str} {st : Stmt} {N ps : List Str} {k n : Nat} {B : List Nat} {body : S} {f : Addr} {fd : FuncData} (F : Fun K x x st f fd) (S : FnScope N ps (defScope st)) (hn : ps.length = n)
    (hb : ∀ (f : Addr) (cdv : Value) (A : Around) (fr : List Env) (s : Shared) (H : Hp) (E : XK), A.guards = some [] → Room k (A.deeper (envOfC x (defScope st) s.heap.objs.size f cdv)) →
      ESs (cxOf (L2.CX P' w) P' w K mg base N x (defScope st) f cdv A fr s H E) ⟨H, B⟩ (fun _ => E) (defBody st) body) :
    FnG P' w K mg base (L2.CX P' w) (k + 1) f fd ps (spP K n (fnP N.length B body)) := by
  subst hn
  exact fn_pure F S (hb f)
abbrev s__law_pot : Stmt := topS 19
abbrev s__law_draw : Stmt := topS 20
abbrev s__law_name : Stmt := topS 22
abbrev s__law_names : Stmt := topS 23
abbrev s__law_mixed : Stmt := topS 21
abbrev s__law_kinds : Stmt := topS 24
abbrev s__law_above : Stmt := topS 25
abbrev s__law_ups : Stmt := topS 26
abbrev s__law_due : Stmt := topS 27
abbrev m_Hierarchy_has_class : Stmt := inClass (topS 17) 9
abbrev m_Hierarchy_require_class : Stmt := inClass (topS 17) 12
abbrev m_Hierarchy_names : Stmt := inClass (topS 17) 8
abbrev m_Hierarchy_highest_common : Stmt := inClass (topS 17) 16
abbrev s__law_told : Stmt := topS 28
abbrev s__law_missing : Stmt := topS 30
abbrev s__law_missing_right : Stmt := topS 31
abbrev s__law_row_right : Stmt := topS 29
abbrev s_law : Stmt := topS 32
theorem q_NotFound : FnScope ["self", "value"] ["self", "value"] (defScope i_NotFound) := ⟨rfl, rfl, rfl, by decide +kernel, rfl, by decide +kernel, by decide +kernel⟩
theorem ok_NotFound {P' : Program} {w : World} {K : PySem.W.Frag} {mg : Str → Option Value} {base : Heap} {CN f : Addr} {fd : FuncData} {k : Nat} (F : Fun K "__init__" "NotFound.__init__" i_NotFound f fd) (O : Er.Over K CN "LookupError" "LookupError.__new__" "LookupError.__init__" [.type "LookupError", .type "Exception", .type "BaseException", .type "object"])
    (mL : mg "LookupError" = none) (vL : PySem.W.findCls K (.type "LookupError") (.type "type") "__init__" = some (.val (.builtin "LookupError.__init__"))) (nv : PySem.W.findIn K (.ref CN) "value" = some none) :
    FnOk P' w K mg base CX0 (k + 1) f fd ["self", "value"] (spEx CN ["value"] fun _ _ => True) := by
  refine F.ok q_NotFound (fun vs H Q E h => ?_) (fun cdv A outer s H vs Q E hr h => ?_)
  · obtain ⟨a, ws, rfl, hl, _⟩ := h
    rw [List.length_cons, hl]; rfl
  · obtain ⟨a, ws, rfl, hl, ha, _, q⟩ := h
    match ws, hl with
    | [v], _ =>
      refine ⟨_, pss_cons (ps_expr (Er.pe_binit (newId := "LookupError.__new__") (bmB := [.type "LookupError", .type "Exception", .type "BaseException", .type "object"]) (by rfl) mL (by decide +kernel) (by kernel_rfl) (by decide +kernel) (by decide +kernel) vL (pa_cons (pv 0) (pa_cons pe_str pa_nil))))
        (pss_one (Er.ps_ost (pv 0) (pv 1))), ?_⟩
      refine ⟨.ref a, rfl, a, CN, [.str "not found"], rfl, (show 1 ≤ 1000 from by decide), O, ha, v, rfl, .ref a, rfl, a, CN, rfl, ⟨_, _, _, _, O⟩, nv, .inl ⟨ha, fun d nd ne => ?_⟩⟩
      have e : upd (upd H d (exd d [("value", v)])) a (exo a CN (some d)) = upd (upd H a (exo a CN (some d))) d (exd d ((["value"] : List Str).zip [v]).reverse) := by
        funext b
        by_cases h1 : b = a
        · subst h1; rw [upd_same, upd_ne (Ne.symm ne), upd_same]
        · rw [upd_ne h1]
          by_cases h2 : b = d
          · subst h2; rw [upd_same, upd_same]; rfl
          · rw [upd_ne h2, upd_ne h2, upd_ne h1]
      rw [e]
      exact q d nd ne
section
variable {P' : Program} {w : World} {mg : Str → Option Value} {base : Heap} {z : Zf}
theorem q__law_pot : FnScope ["_law_script", "_law_k", "_law_cell"] ["_law_script", "_law_k"] (defScope s__law_pot) := ⟨rfl, rfl, rfl, by decide +kernel, rfl, by decide +kernel, by decide +kernel⟩
theorem t__law_pot (d : Def z.K mg "_law_pot" s__law_pot ["_law_script", "_law_k"]) (n_len : mg "len" = none) (n_abs : mg "abs" = none) (n_max : mg "max" = none) :
    Cal P' w z.K mg base 1 2 "_law_pot" (F__law_pot z) :=
  cal_mk (k := 0) (B := []) d q__law_pot rfl (fun f cdv A fr s H E hg hr => have hu := hu_of hr; have hu64 := hu64_of hr; (ess_cons (es_set (i := 2) q__law_pot.nd rfl (.inl rfl) (by first | decide | (simp [Gx.plus, Tg.ix]; done) | (intro i hi; simp [Gx.plus, Tg.ix] at hi ⊢; omega)) (er_if (et_cmp op_lt o2_lt (evn 1) (ep_of (ev_call1 call_lenA o1_len (by rfl) n_len (by decide +kernel) (epn 0))) (nomark _)) (er_vl (eixn 0 hu (evn 1))) (er_vl ev_int)))
    (ess_one (es_ret (er_lst (ea_cons (ev_callA (call_max2 rfl) oa_max (by rfl) n_max (by decide +kernel) (ea_cons ev_int (ea_cons (ev_bin op_sub o2_sub (ev_callA call_abs oa_abs (by rfl) n_abs (by decide +kernel) (ea_cons (evn 2) ea_nil)) (ep_of (ev_bin op_pow o2_pow ev_int (ep_of ev_int)))) ea_nil))) (ea_cons (ev_bin op_mod o2_mod (ev_bin op_addA o2_add (ev_bin op_addA o2_add (ev_bin op_mulA o2_mul (ev_bin op_mod o2_mod (ev_callA call_abs oa_abs (by rfl) n_abs (by decide +kernel) (ea_cons (evn 2) ea_nil)) (ep_of ev_int)) (ep_of ev_int)) (ep_of (ev_bin op_mulA o2_mul ev_int (epn 1)))) (ep_of ev_int)) (ep_of ev_int)) ea_nil)))))))
theorem q__law_draw : FnScope ["_law_pot_here", "_law_many", "_law_digit"] ["_law_pot_here", "_law_many"] (defScope s__law_draw) := ⟨rfl, rfl, rfl, by decide +kernel, rfl, by decide +kernel, by decide +kernel⟩
theorem t__law_draw (d : Def z.K mg "_law_draw" s__law_draw ["_law_pot_here", "_law_many"]) (n_divmod : mg "divmod" = none) :
    Cal P' w z.K mg base 1 2 "_law_draw" (F__law_draw z) :=
  cal_mk (k := 0) (B := [0]) d q__law_draw rfl (fun f cdv A fr s H E hg hr => have hu := hu_of hr; have hu64 := hu64_of hr; (ess_cons (es_if (et_cmp op_gt o2_gt (eixn 0 hu ev_int) (ep_of ev_int) (nomark _)) (ess_cons (es_asg (ev_callA call_divmodW oa_divmod (by rfl) n_divmod (by decide +kernel) (ea_cons (eixn 0 hu ev_int) (ea_cons (evn 1) ea_nil))) (eg_tup (by rfl) (egs_cons (eg_sub (i := 0) rfl (by first | exact Or.inl rfl | exact Or.inr (Or.inl rfl) | exact Or.inr (Or.inr rfl)) ev_int) (egs_cons (eg_name (i := 2) q__law_draw.nd rfl (.inl rfl) (by first | decide | (simp [Gx.plus, Tg.ix]; done) | (intro i hi; simp [Gx.plus, Tg.ix] at hi ⊢; omega))) egs_nil))))
    (ess_one (eret 2 (by first | decide | (simp [Gx.plus, Tg.ix]; done) | (intro i hi; simp [Gx.plus, Tg.ix] at hi ⊢; omega))))) ess_nil)
    (ess_cons (es_asg (ev_bin op_mod o2_mod (ev_bin op_addA o2_add (ev_bin op_mulA o2_mul (eixn 0 hu ev_int) (ep_of ev_int)) (ep_of ev_int)) (ep_of ev_int)) (eg_sub (i := 0) rfl (by first | exact Or.inl rfl | exact Or.inr (Or.inl rfl) | exact Or.inr (Or.inr rfl)) ev_int))
    (ess_one (es_ret (er_vl (ev_bin op_mod o2_mod (ev_bin op_fdiv o2_fdiv (ev_bin op_mod o2_mod (ev_bin op_mulA o2_mul (eixn 0 hu ev_int) (ep_of (eixn 0 hu ev_int))) (ep_of ev_int)) (ep_of ev_int)) (epn 1))))))))
theorem q__law_name : FnScope ["_law_pot_here", "_law_letters", "_law_turn"] ["_law_pot_here"] (defScope s__law_name) := ⟨rfl, rfl, rfl, by decide +kernel, rfl, by decide +kernel, by decide +kernel⟩
theorem t__law_name (d : Def z.K mg "_law_name" s__law_name ["_law_pot_here"]) (c__law_draw : Cal P' w z.K mg base 1 2 "_law_draw" (F__law_draw z)) (n_range : mg "range" = none) :
    Cal P' w z.K mg base 2 1 "_law_name" (F__law_name z) :=
  cal_mk (k := 1) (B := [0]) d q__law_name rfl (fun f cdv A fr s H E hg hr => have hu := hu_of hr; have hu64 := hu64_of hr; (ess_cons (es_set (i := 1) q__law_name.nd rfl (.inr rfl) (by first | decide | (simp [Gx.plus, Tg.ix]; done) | (intro i hi; simp [Gx.plus, Tg.ix] at hi ⊢; omega)) (er_vl ev_str))
    (ess_one (es_ret (er_vl (ev_bm PySem.F.slot_str_join PySem.F.type_str_join mt_join om_join ev_str (ea_cons (ev_fz (er_lc (own := [("_law_turn", 2)]) (T := (.one 2)) (gt := (gName 2)) rfl q__law_name.nd (ei_range1 (by rfl) n_range (ev_ix hu (ev_fz (er_lst (ea_cons ev_int (ea_cons ev_int (ea_cons ev_int ea_nil))))) (ev_fz (er_callB (i := 0) c__law_draw hg (hr.mono (by decide)) (by rfl) (fun σ => passAt (takes_of rfl rfl rfl rfl) σ) rfl (by first | exact Or.inl rfl | exact Or.inr (Or.inl rfl) | exact Or.inr (Or.inr rfl)) (ea_cons ev_int ea_nil))) (by intro _ _; rfl))) (blkOk_by (own := [("_law_turn", 2)]) (N := ["_law_pot_here", "_law_letters", "_law_turn"]) (sc := defScope s__law_name) (by decide +kernel)) tg_one rfl (fun _ _ _ _ _ => (pg_name (i := 2) q__law_name.nd rfl (by first | exact Or.inl rfl | exact Or.inr rfl))) (fun _ _ _ _ _ => pts0) (fun _ _ _ _ _ => (eixn 1 hu (ev_fz (er_callB (i := 0) c__law_draw hg (hr.mono (by decide)) (by rfl) (fun _ => pass_no) rfl (by first | exact Or.inl rfl | exact Or.inr (Or.inl rfl) | exact Or.inr (Or.inr rfl)) (ea_cons ev_int ea_nil))))) (by decide) kp_nil kp_nil)) ea_nil)))))))
theorem q__law_names : FnScope ["_law_pot_here", "_law_many", "_law_found", "_law_turn", "_law_drawn", "_law_free", "_law_letter"] ["_law_pot_here", "_law_many"] (defScope s__law_names) := ⟨rfl, rfl, rfl, by decide +kernel, rfl, by decide +kernel, by decide +kernel⟩
theorem t__law_names (d : Def z.K mg "_law_names" s__law_names ["_law_pot_here", "_law_many"]) (n_range : mg "range" = none) (c__law_name : Cal P' w z.K mg base 2 1 "_law_name" (F__law_name z)) :
    Cal P' w z.K mg base 3 2 "_law_names" (F__law_names z) :=
  cal_mk (k := 2) (B := [0]) d q__law_names rfl (fun f cdv A fr s H E hg hr => have hu := hu_of hr; have hu64 := hu64_of hr; (ess_cons (es_set (i := 2) q__law_names.nd rfl (.inr rfl) (by first | decide | (simp [Gx.plus, Tg.ix]; done) | (intro i hi; simp [Gx.plus, Tg.ix] at hi ⊢; omega)) (er_lst ea_nil))
    (ess_cons (es_for0 (T := (.one 3)) (gt := (gName 3)) (passes_of rfl) rfl (ei_range1 (by rfl) n_range (evn 1)) (pg_name (i := 3) q__law_names.nd rfl (.inl rfl)) tg_one (ess_cons (es_set (i := 4) q__law_names.nd rfl (.inl rfl) (by first | decide | (simp [Gx.plus, Tg.ix]; done) | (intro i hi; simp [Gx.plus, Tg.ix] at hi ⊢; omega)) (er_callB (i := 0) c__law_name hg (hr.mono (by decide)) (by rfl) (fun σ => passAt (takes_of rfl rfl rfl rfl) σ) rfl (by first | exact Or.inl rfl | exact Or.inr (Or.inl rfl) | exact Or.inr (Or.inr rfl)) ea_nil))
    (ess_cons (es_setLc (i := 5) (own := [("_law_letter", 6)]) (T := (.one 6)) (gt := (gName 6)) rfl q__law_names.nd rfl rfl (by first | decide | (simp [Gx.plus, Tg.ix]; done) | (intro i hi; simp [Gx.plus, Tg.ix] at hi ⊢; omega)) (sw_true rfl rfl rfl (by decide +kernel)) (ei_str ev_str) (blkOk_by (own := [("_law_letter", 6)]) (N := ["_law_pot_here", "_law_many", "_law_found", "_law_turn", "_law_drawn", "_law_free", "_law_letter"]) (sc := defScope s__law_names) (by decide +kernel)) tg_one rfl (fun _ _ _ _ _ => (pg_name (i := 6) q__law_names.nd rfl (by first | exact Or.inl rfl | exact Or.inr rfl))) (fun _ _ _ _ _ => pts1 (et_cmp (op_notInA hu) o2_notIn (evn 6) (epn 2) (by rfl))) (fun _ _ _ _ _ => (evn 6)) (by decide) kp_nil kp_nil)
    (ess_one (es_expr (ev_mut (i := 2) rfl (by first | exact Or.inl rfl | exact Or.inr (Or.inl rfl) | exact Or.inr (Or.inr rfl)) PySem.F.slot_list_append PySem.F.type_list_append mt_append om_append (ea_cons (ev_if (et_cmp (op_inA hu) o2_in (evn 4) (epn 2) (by rfl)) (eixn 5 hu ev_int) (evn 4)) ea_nil)))))) (by first | decide | (simp [Gx.plus, Tg.ix]; done) | (intro i hi; simp [Gx.plus, Tg.ix] at hi ⊢; omega)))
    (ess_one (eret 2 (by first | decide | (simp [Gx.plus, Tg.ix]; done) | (intro i hi; simp [Gx.plus, Tg.ix] at hi ⊢; omega)))))))
theorem q__law_mixed : FnScope ["_law_pot_here", "_law_some", "_law_left", "_law_turn"] ["_law_pot_here", "_law_some"] (defScope s__law_mixed) := ⟨rfl, rfl, rfl, by decide +kernel, rfl, by decide +kernel, by decide +kernel⟩
theorem t__law_mixed (d : Def z.K mg "_law_mixed" s__law_mixed ["_law_pot_here", "_law_some"]) (n_list : mg "list" = none) (n_len : mg "len" = none) (n_range : mg "range" = none) (c__law_draw : Cal P' w z.K mg base 1 2 "_law_draw" (F__law_draw z)) :
    Cal P' w z.K mg base 2 2 "_law_mixed" (F__law_mixed z) :=
  cal_mk (k := 1) (B := [0]) d q__law_mixed rfl (fun f cdv A fr s H E hg hr => have hu := hu_of hr; have hu64 := hu64_of hr; (ess_cons (es_set (i := 2) q__law_mixed.nd rfl (.inr rfl) (by first | decide | (simp [Gx.plus, Tg.ix]; done) | (intro i hi; simp [Gx.plus, Tg.ix] at hi ⊢; omega)) (er_listA rfl (by rfl) n_list (epn 1)))
    (ess_one (es_ret (er_lc (own := [("_law_turn", 3)]) (T := (.one 3)) (gt := (gName 3)) rfl q__law_mixed.nd (ei_range1 (by rfl) n_range (ev_call1 call_lenA o1_len (by rfl) n_len (by decide +kernel) (epn 1))) (blkOk_by (own := [("_law_turn", 3)]) (N := ["_law_pot_here", "_law_some", "_law_left", "_law_turn"]) (sc := defScope s__law_mixed) (by decide +kernel)) tg_one rfl (fun _ _ _ _ _ => (pg_name (i := 3) q__law_mixed.nd rfl (by first | exact Or.inl rfl | exact Or.inr rfl))) (fun _ _ _ _ _ => pts0) (fun _ _ _ _ _ => (ev_mut (i := 2) rfl (by first | exact Or.inl rfl | exact Or.inr (Or.inl rfl) | exact Or.inr (Or.inr rfl)) PySem.F.slot_list_pop PySem.F.type_list_pop mt_popAt om_pop (ea_cons (ev_fz (er_callB (i := 0) c__law_draw hg (hr.mono (by decide)) (by rfl) (fun _ => pass_no) rfl (by first | exact Or.inl rfl | exact Or.inr (Or.inl rfl) | exact Or.inr (Or.inr rfl)) (ea_cons (ev_call1 call_lenA o1_len (by rfl) n_len (by decide +kernel) (epn 2)) ea_nil))) ea_nil))) (by decide) kp_nil kp_nil)))))
theorem q__law_kinds : FnScope ["_law_pot_here", "_law_most", "_law_rows", "_law_label", "_law_many", "_law_row"] ["_law_pot_here", "_law_most"] (defScope s__law_kinds) := ⟨rfl, rfl, rfl, by decide +kernel, rfl, by decide +kernel, by decide +kernel⟩
theorem t__law_kinds (d : Def z.K mg "_law_kinds" s__law_kinds ["_law_pot_here", "_law_most"]) (c__law_names : Cal P' w z.K mg base 3 2 "_law_names" (F__law_names z)) (c__law_draw : Cal P' w z.K mg base 1 2 "_law_draw" (F__law_draw z)) (c__law_mixed : Cal P' w z.K mg base 2 2 "_law_mixed" (F__law_mixed z)) (n_tuple : mg "tuple" = none) :
    Cal P' w z.K mg base 4 2 "_law_kinds" (F__law_kinds z) :=
  cal_mk (k := 3) (B := [0]) d q__law_kinds rfl (fun f cdv A fr s H E hg hr => have hu := hu_of hr; have hu64 := hu64_of hr; (ess_cons (es_set (i := 2) q__law_kinds.nd rfl (.inl rfl) (by first | decide | (simp [Gx.plus, Tg.ix]; done) | (intro i hi; simp [Gx.plus, Tg.ix] at hi ⊢; omega)) (er_lst ea_nil))
    (ess_cons (es_for0 (T := (.one 3)) (gt := (gName 3)) (passes_of rfl) rfl (ei_seq (ev_fz (er_callB (i := 0) c__law_names hg (hr.mono (by decide)) (by rfl) (fun σ => passAt (takes_of rfl rfl rfl rfl) σ) rfl (by first | exact Or.inl rfl | exact Or.inr (Or.inl rfl) | exact Or.inr (Or.inr rfl)) (ea_cons (ev_bin op_addA o2_add ev_int (ep_of (ev_fz (er_callB (i := 0) c__law_draw hg (hr.mono (by decide)) (by rfl) (fun σ => passAt (takes_of rfl rfl rfl rfl) σ) rfl (by first | exact Or.inl rfl | exact Or.inr (Or.inl rfl) | exact Or.inr (Or.inr rfl)) (ea_cons (evn 1) ea_nil))))) ea_nil)))) (pg_name (i := 3) q__law_kinds.nd rfl (.inl rfl)) tg_one (ess_cons (es_set (i := 4) q__law_kinds.nd rfl (.inl rfl) (by first | decide | (simp [Gx.plus, Tg.ix]; done) | (intro i hi; simp [Gx.plus, Tg.ix] at hi ⊢; omega)) (er_vl (ev_ix hu (ev_fz (er_lst (ea_cons ev_int (ea_cons ev_int (ea_cons ev_int (ea_cons ev_int (ea_cons ev_int (ea_cons ev_int ea_nil)))))))) (ev_fz (er_callB (i := 0) c__law_draw hg (hr.mono (by decide)) (by rfl) (fun σ => passAt (takes_of rfl rfl rfl rfl) σ) rfl (by first | exact Or.inl rfl | exact Or.inr (Or.inl rfl) | exact Or.inr (Or.inr rfl)) (ea_cons ev_int ea_nil))) (by intro _ _; rfl))))
    (ess_one (es_expr (ev_mut (i := 2) rfl (by first | exact Or.inl rfl | exact Or.inr (Or.inl rfl) | exact Or.inr (Or.inr rfl)) PySem.F.slot_list_append PySem.F.type_list_append mt_append om_append (ea_cons (ev_tup (ea_cons (evn 3) (ea_cons (ev_callT1 call_tuple_of o1_tuple (by rfl) n_tuple (by decide +kernel) (ep_of (ev_fz (er_slice (ev_fz (er_callB (i := 0) c__law_mixed hg (hr.mono (by decide)) (by rfl) (fun σ => passAt (takes_of rfl rfl rfl rfl) σ) rfl (by first | exact Or.inl rfl | exact Or.inr (Or.inl rfl) | exact Or.inr (Or.inr rfl)) (ea_cons (ev_fz (er_lc (own := [("_law_row", 5)]) (T := (.one 5)) (gt := (gName 5)) rfl q__law_kinds.nd (ein 2) (blkOk_by (own := [("_law_row", 5)]) (N := ["_law_pot_here", "_law_most", "_law_rows", "_law_label", "_law_many", "_law_row"]) (sc := defScope s__law_kinds) (by decide +kernel)) tg_one rfl (fun _ _ _ _ _ => (pg_name (i := 5) q__law_kinds.nd rfl (by first | exact Or.inl rfl | exact Or.inr rfl))) (fun _ _ _ _ _ => pts0) (fun _ _ _ _ _ => (eixn 5 hu ev_int)) (by decide) (by repeat' first | exact kp_nil | exact kp_prt | exact kp_lft | exact kp_pk | exact kp_none | exact kp_app | exact kp_rd (by decide) | refine kp_lc (by decide) ?_ ?_ ?_ | refine kp_ix ?_ | refine kp_ite ?_ ?_ | refine kp_bnd ?_ fun _ => ?_) (by repeat' first | exact kp_nil | exact kp_prt | exact kp_lft | exact kp_pk | exact kp_none | exact kp_app | exact kp_rd (by decide) | refine kp_lc (by decide) ?_ ?_ ?_ | refine kp_ix ?_ | refine kp_ite ?_ ?_ | refine kp_bnd ?_ fun _ => ?_))) ea_nil))) eo_none (eo_some (evn 4)))))) ea_nil))) ea_nil))))) (by first | decide | (simp [Gx.plus, Tg.ix]; done) | (intro i hi; simp [Gx.plus, Tg.ix] at hi ⊢; omega)))
    (ess_one (eret 2 (by first | decide | (simp [Gx.plus, Tg.ix]; done) | (intro i hi; simp [Gx.plus, Tg.ix] at hi ⊢; omega)))))))
theorem q__law_above : FnScope ["_law_rows", "_law_label", "_law_found", "_law_one", "_law_superclasses", "_law_each"] ["_law_rows", "_law_label"] (defScope s__law_above) := ⟨rfl, rfl, rfl, by decide +kernel, rfl, by decide +kernel, by decide +kernel⟩
theorem t__law_above (d : Def z.K mg "_law_above" s__law_above ["_law_rows", "_law_label"])  :
    Cal P' w z.K mg base 1 2 "_law_above" (F__law_above z) :=
  cal_mk (k := 0) (B := []) d q__law_above rfl (fun f cdv A fr s H E hg hr => have hu := hu_of hr; have hu64 := hu64_of hr; (ess_cons (es_set (i := 2) q__law_above.nd rfl (.inr rfl) (by first | decide | (simp [Gx.plus, Tg.ix]; done) | (intro i hi; simp [Gx.plus, Tg.ix] at hi ⊢; omega)) (er_lst (ea_cons (evn 1) ea_nil)))
    (ess_cons (es_for0 (T := (.many [3, 4])) (gt := (gTup _ 2 (gNames [3, 4]))) (passes_of rfl) rfl (ei_seq (ev_fz (er_rev (evn 0)))) (pg_tup (by rfl) (pgs_cons (pg_name (i := 3) q__law_above.nd rfl (.inl rfl)) (pgs_cons (pg_name (i := 4) q__law_above.nd rfl (.inl rfl)) pgs_nil))) (tg_many (is := [3, 4])) (ess_one (es_if (et_cmp (op_inA hu) o2_in (evn 3) (epn 2) (by rfl)) (ess_one (es_expr (ev_mut (i := 2) rfl (by first | exact Or.inl rfl | exact Or.inr (Or.inl rfl) | exact Or.inr (Or.inr rfl)) PySem.F.slot_list_extend PySem.F.type_list_extend mt_extend om_extend (ea_cons (ev_fz (er_lc (own := [("_law_each", 5)]) (T := (.one 5)) (gt := (gName 5)) rfl q__law_above.nd (ei_seq (evn 4)) (blkOk_by (own := [("_law_each", 5)]) (N := ["_law_rows", "_law_label", "_law_found", "_law_one", "_law_superclasses", "_law_each"]) (sc := defScope s__law_above) (by decide +kernel)) tg_one rfl (fun _ _ _ _ _ => (pg_name (i := 5) q__law_above.nd rfl (by first | exact Or.inl rfl | exact Or.inr rfl))) (fun _ _ _ _ _ => pts1 (et_cmp (op_notInA hu) o2_notIn (evn 5) (epn 2) (by rfl))) (fun _ _ _ _ _ => (evn 5)) (by decide) kp_nil kp_nil)) ea_nil)))) ess_nil)) (by first | decide | (simp [Gx.plus, Tg.ix]; done) | (intro i hi; simp [Gx.plus, Tg.ix] at hi ⊢; omega)))
    (ess_one (eret 2 (by first | decide | (simp [Gx.plus, Tg.ix]; done) | (intro i hi; simp [Gx.plus, Tg.ix] at hi ⊢; omega)))))))
theorem q__law_ups : FnScope ["_law_rows", "_law_row"] ["_law_rows"] (defScope s__law_ups) := ⟨rfl, rfl, rfl, by decide +kernel, rfl, by decide +kernel, by decide +kernel⟩
theorem t__law_ups (d : Def z.K mg "_law_ups" s__law_ups ["_law_rows"]) (c__law_above : Cal P' w z.K mg base 1 2 "_law_above" (F__law_above z)) (n_dict : mg "dict" = none) :
    Cal P' w z.K mg base 2 1 "_law_ups" (F__law_ups z) :=
  cal_mk (k := 1) (B := []) d q__law_ups rfl (fun f cdv A fr s H E hg hr => have hu := hu_of hr; have hu64 := hu64_of hr; (ess_one (es_ret (er_dict rfl (by rfl) n_dict (ev_fz (er_lc (own := [("_law_row", 1)]) (T := (.one 1)) (gt := (gName 1)) rfl q__law_ups.nd (ei_seq (evn 0)) (blkOk_by (own := [("_law_row", 1)]) (N := ["_law_rows", "_law_row"]) (sc := defScope s__law_ups) (by decide +kernel)) tg_one rfl (fun _ _ _ _ _ => (pg_name (i := 1) q__law_ups.nd rfl (by first | exact Or.inl rfl | exact Or.inr rfl))) (fun _ _ _ _ _ => pts0) (fun _ _ _ _ _ => (ev_tup (ea_cons (eixn 1 hu ev_int) (ea_cons (ev_fz (er_callC c__law_above hg (hr.mono (by decide)) (by rfl) (fun _ => pass_no) (ea_cons (evn 0) (ea_cons (eixn 1 hu ev_int) ea_nil)))) ea_nil)))) (by decide) kp_nil kp_nil))))))
theorem q__law_due : FnScope ["_law_ups_here", "_law_some", "_law_common", "_law_label", "_law_one"] ["_law_ups_here", "_law_some"] (defScope s__law_due) := ⟨rfl, rfl, rfl, by decide +kernel, rfl, by decide +kernel, by decide +kernel⟩
theorem t__law_due (d : Def z.K mg "_law_due" s__law_due ["_law_ups_here", "_law_some"]) (n_all : mg "all" = none) :
    Cal P' w z.K mg base 1 2 "_law_due" (F__law_due z) :=
  cal_mk (k := 0) (B := []) d q__law_due rfl (fun f cdv A fr s H E hg hr => have hu := hu_of hr; have hu64 := hu64_of hr; (ess_cons (es_set (i := 2) q__law_due.nd rfl (.inr rfl) (by first | decide | (simp [Gx.plus, Tg.ix]; done) | (intro i hi; simp [Gx.plus, Tg.ix] at hi ⊢; omega)) (er_lc (own := [("_law_label", 3)]) (T := (.one 3)) (gt := (gName 3)) rfl q__law_due.nd (ei_keys (evn 0)) (blkOk_by (own := [("_law_label", 3)]) (N := ["_law_ups_here", "_law_some", "_law_common", "_law_label", "_law_one"]) (sc := defScope s__law_due) (by decide +kernel)) tg_one rfl (fun _ _ _ _ _ => (pg_name (i := 3) q__law_due.nd rfl (by first | exact Or.inl rfl | exact Or.inr rfl))) (fun _ _ _ _ _ => pts1 (et_val (ev_call1 (cr_all rfl) o1_all (by rfl) n_all (by decide +kernel) (ep_of (ev_fz (er_lc (own := [("_law_one", 4)]) (T := (.one 4)) (gt := (gName 4)) rfl q__law_due.nd (ei_seq (evn 1)) (blkOk_by (own := [("_law_one", 4)]) (N := ["_law_ups_here", "_law_some", "_law_common", "_law_label", "_law_one"]) (by kernel_rfl)) tg_one rfl (fun _ _ _ _ _ => (pg_name (i := 4) q__law_due.nd rfl (by first | exact Or.inl rfl | exact Or.inr rfl))) (fun _ _ _ _ _ => pts0) (fun _ _ _ _ _ => (ev_cmp (op_inA hu) o2_in (evn 4) (ep_of (eixn 0 hu (evn 3))) (by rfl))) (by decide) kp_nil kp_nil)))))) (fun _ _ _ _ _ => (evn 3)) (by decide) kp_nil kp_nil))
    (ess_one (es_ret (er_lc (own := [("_law_label", 3)]) (T := (.one 3)) (gt := (gName 3)) rfl q__law_due.nd (ei_seq (evn 2)) (blkOk_by (own := [("_law_label", 3)]) (N := ["_law_ups_here", "_law_some", "_law_common", "_law_label", "_law_one"]) (sc := defScope s__law_due) (by decide +kernel)) tg_one rfl (fun _ _ _ _ _ => (pg_name (i := 3) q__law_due.nd rfl (by first | exact Or.inl rfl | exact Or.inr rfl))) (fun _ _ _ _ _ => pts1 (et_cmp (op_eqA hr.units) o2_eq (ev_fz (er_lc (own := [("_law_one", 4)]) (T := (.one 4)) (gt := (gName 4)) rfl q__law_due.nd (ei_seq (evn 2)) (blkOk_by (own := [("_law_one", 4)]) (N := ["_law_ups_here", "_law_some", "_law_common", "_law_label", "_law_one"]) (by kernel_rfl)) tg_one rfl (fun _ _ _ _ _ => (pg_name (i := 4) q__law_due.nd rfl (by first | exact Or.inl rfl | exact Or.inr rfl))) (fun _ _ _ _ _ => pts1 (et_cmp (op_inA hu) o2_in (evn 4) (ep_of (eixn 0 hu (evn 3))) (by rfl))) (fun _ _ _ _ _ => (evn 4)) (by decide) kp_nil kp_nil)) (ep_of (ev_fz (er_lst (ea_cons (evn 3) ea_nil)))) (nomark _))) (fun _ _ _ _ _ => (evn 3)) (by decide) kp_nil kp_nil)))))
theorem q_Hierarchy_has_class : FnScope ["self", "value"] ["self", "value"] (defScope m_Hierarchy_has_class) := ⟨rfl, rfl, rfl, by decide +kernel, rfl, by decide +kernel, by decide +kernel⟩
theorem t_Hierarchy_has_class (d : DefM z.K z.c_Hierarchy "has_class" "Hierarchy.has_class" m_Hierarchy_has_class ["self", "value"]) (k_Hierarchy : Cls z.K z.c_Hierarchy) (na_Hierarchy_places : NoAttr z.K z.c_Hierarchy "places") (n_isinstance : mg "isinstance" = none) (n_str : mg "str" = none) :
    CalM P' w z.K mg base z.c_Hierarchy 1 2 "has_class" (F_Hierarchy_has_class z) :=
  calM_mk (k := 0) (B := []) d q_Hierarchy_has_class rfl (fun f cdv A fr s H E hg hr => have hu := hu_of hr; have hu64 := hu64_of hr; (ess_one (es_ret (er_vl (ev_and (ev_isi (T := "str") (by rfl) n_isinstance (by rfl) n_str (by decide +kernel) (epn 1)) (ev_one (ev_cmp (op_inA hu) o2_in (evn 1) (ep_of (ev_fld k_Hierarchy na_Hierarchy_places (evn 0))) (by rfl))))))))
theorem q_Hierarchy_require_class : FnScope ["self", "value"] ["self", "value"] (defScope m_Hierarchy_require_class) := ⟨rfl, rfl, rfl, by decide +kernel, rfl, by decide +kernel, by decide +kernel⟩
theorem t_Hierarchy_require_class (d : DefM z.K z.c_Hierarchy "require_class" "Hierarchy.require_class" m_Hierarchy_require_class ["self", "value"]) (c_Hierarchy_has_class : CalM P' w z.K mg base z.c_Hierarchy 1 2 "has_class" (F_Hierarchy_has_class z)) (r_NotFound : RsC P' w z.K mg base 1 "NotFound" z.c_NotFound ["value"] (fun _ => true)) :
    CalM P' w z.K mg base z.c_Hierarchy 3 2 "require_class" (F_Hierarchy_require_class z) :=
  calM_mk (k := 2) (B := []) d q_Hierarchy_require_class rfl (fun f cdv A fr s H E hg hr => have hu := hu_of hr; have hu64 := hu64_of hr; (ess_one (es_if (et_not (et_val (ev_fz (er_methC c_Hierarchy_has_class (evn 0) hg (hr.mono (by decide)) (fun σ => passAt (takes_of rfl rfl rfl rfl) σ) (ea_cons (evn 1) ea_nil))))) (ess_one (es_raise r_NotFound rfl (takes_of rfl rfl rfl rfl) (hr.mono (by decide)) (by rfl) (ea_cons (evn 1) ea_nil))) ess_nil)))
theorem q_Hierarchy_names : FnScope ["self"] ["self"] (defScope m_Hierarchy_names) := ⟨rfl, rfl, rfl, by decide +kernel, rfl, by decide +kernel, by decide +kernel⟩
theorem t_Hierarchy_names (d : DefM z.K z.c_Hierarchy "names" "Hierarchy.names" m_Hierarchy_names ["self"]) (k_Hierarchy : Cls z.K z.c_Hierarchy) (na_Hierarchy_places : NoAttr z.K z.c_Hierarchy "places") (n_list : mg "list" = none) :
    CalM P' w z.K mg base z.c_Hierarchy 1 1 "names" (F_Hierarchy_names z) :=
  calM_mk (k := 0) (B := []) d q_Hierarchy_names rfl (fun f cdv A fr s H E hg hr => have hu := hu_of hr; have hu64 := hu64_of hr; (ess_one (es_ret (er_listA rfl (by rfl) n_list (ep_of (ev_fld k_Hierarchy na_Hierarchy_places (evn 0)))))))
theorem q_Hierarchy_highest_common : FnScope ["self", "first", "others", "classes", "name", "highest", "is_common", "other"] ((["self", "first"] : List Str) ++ [("others" : Str)]) (defScope m_Hierarchy_highest_common) := ⟨rfl, rfl, rfl, by decide +kernel, rfl, by decide +kernel, by decide +kernel⟩
theorem t_Hierarchy_highest_common (d : DefS z.K z.c_Hierarchy "highest_common" "Hierarchy.highest_common" m_Hierarchy_highest_common ["self", "first"] "others") (c_Hierarchy_require_class : CalM P' w z.K mg base z.c_Hierarchy 3 2 "require_class" (F_Hierarchy_require_class z)) (c_Hierarchy_names : CalM P' w z.K mg base z.c_Hierarchy 1 1 "names" (F_Hierarchy_names z)) (k_Hierarchy : Cls z.K z.c_Hierarchy) (na_Hierarchy_above : NoAttr z.K z.c_Hierarchy "above") (n_all : mg "all" = none) (n_any : mg "any" = none) :
    CalMS P' w z.K mg base z.c_Hierarchy 4 2 "highest_common" (F_Hierarchy_highest_common z) :=
  calMS_mk (k := 3) (B := []) d q_Hierarchy_highest_common rfl (fun f cdv A fr s H E hg hr => have hu := hu_of hr; have hu64 := hu64_of hr; (ess_cons (es_set (i := 3) q_Hierarchy_highest_common.nd rfl (.inl rfl) (by first | decide | (simp [Gx.plus, Tg.ix]; done) | (intro i hi; simp [Gx.plus, Tg.ix] at hi ⊢; omega)) (er_lst (ea_cons (evn 1) (ea_star (evn 2) ea_nil))))
    (ess_cons (es_for0 (T := (.one 4)) (gt := (gName 4)) (passes_of rfl) rfl (ei_seq (evn 3)) (pg_name (i := 4) q_Hierarchy_highest_common.nd rfl (.inr rfl)) tg_one (ess_one (es_expr (ev_fz (er_methC c_Hierarchy_require_class (evn 0) hg (hr.mono (by decide)) (fun σ => passAt (takes_of rfl rfl rfl rfl) σ) (ea_cons (evn 4) ea_nil))))) (by first | decide | (simp [Gx.plus, Tg.ix]; done) | (intro i hi; simp [Gx.plus, Tg.ix] at hi ⊢; omega)))
    (ess_cons (es_set (i := 5) q_Hierarchy_highest_common.nd rfl (.inl rfl) (by first | decide | (simp [Gx.plus, Tg.ix]; done) | (intro i hi; simp [Gx.plus, Tg.ix] at hi ⊢; omega)) (er_lst ea_nil))
    (ess_cons (es_for0 (T := (.one 4)) (gt := (gName 4)) (passes_of rfl) rfl (ei_seq (ev_fz (er_methC0 c_Hierarchy_names (evn 0) hg (hr.mono (by decide)) (fun σ => passAt (takes_of rfl rfl rfl rfl) σ)))) (pg_name (i := 4) q_Hierarchy_highest_common.nd rfl (.inr rfl)) tg_one (ess_cons (es_set (i := 6) q_Hierarchy_highest_common.nd rfl (.inl rfl) (by first | decide | (simp [Gx.plus, Tg.ix]; done) | (intro i hi; simp [Gx.plus, Tg.ix] at hi ⊢; omega)) (er_vl (ev_call1 (cr_all rfl) o1_all (by rfl) n_all (by decide +kernel) (ep_of (ev_fz (er_lc (own := [("other", 7)]) (T := (.one 7)) (gt := (gName 7)) rfl q_Hierarchy_highest_common.nd (ei_seq (evn 3)) (blkOk_by (own := [("other", 7)]) (N := ["self", "first", "others", "classes", "name", "highest", "is_common", "other"]) (sc := defScope m_Hierarchy_highest_common) (by decide +kernel)) tg_one rfl (fun _ _ _ _ _ => (pg_name (i := 7) q_Hierarchy_highest_common.nd rfl (by first | exact Or.inl rfl | exact Or.inr rfl))) (fun _ _ _ _ _ => pts0) (fun _ _ _ _ _ => (ev_cmp (op_inA hu) o2_in (evn 7) (ep_of (ev_ix hu (ev_fld k_Hierarchy na_Hierarchy_above (evn 0)) (evn 4) (by intro _ _; rfl))) (by rfl))) (by decide) kp_nil kp_nil))))))
    (ess_one (es_if (et_w (ew_and (et_val (evn 6)) (ew_and1 (et_not (et_val (ev_call1 (cr_any rfl) o1_any (by rfl) n_any (by decide +kernel) (ep_of (ev_fz (er_lc (own := [("other", 7)]) (T := (.one 7)) (gt := (gName 7)) rfl q_Hierarchy_highest_common.nd (ein 5) (blkOk_by (own := [("other", 7)]) (N := ["self", "first", "others", "classes", "name", "highest", "is_common", "other"]) (sc := defScope m_Hierarchy_highest_common) (by decide +kernel)) tg_one rfl (fun _ _ _ _ _ => (pg_name (i := 7) q_Hierarchy_highest_common.nd rfl (by first | exact Or.inl rfl | exact Or.inr rfl))) (fun _ _ _ _ _ => pts0) (fun _ _ _ _ _ => (ev_cmp (op_inA hu) o2_in (evn 7) (ep_of (ev_ix hu (ev_fld k_Hierarchy na_Hierarchy_above (evn 0)) (evn 4) (by intro _ _; rfl))) (by rfl))) (by decide) (by repeat' first | exact kp_nil | exact kp_prt | exact kp_lft | exact kp_pk | exact kp_none | exact kp_app | exact kp_rd (by decide) | refine kp_lc (by decide) ?_ ?_ ?_ | refine kp_ix ?_ | refine kp_ite ?_ ?_ | refine kp_bnd ?_ fun _ => ?_) (by repeat' first | exact kp_nil | exact kp_prt | exact kp_lft | exact kp_pk | exact kp_none | exact kp_app | exact kp_rd (by decide) | refine kp_lc (by decide) ?_ ?_ ?_ | refine kp_ix ?_ | refine kp_ite ?_ ?_ | refine kp_bnd ?_ fun _ => ?_)))))))))) (ess_one (es_expr (ev_mut (i := 5) rfl (by first | exact Or.inl rfl | exact Or.inr (Or.inl rfl) | exact Or.inr (Or.inr rfl)) PySem.F.slot_list_append PySem.F.type_list_append mt_append om_append (ea_cons (evn 4) ea_nil)))) ess_nil))) (by first | decide | (simp [Gx.plus, Tg.ix]; done) | (intro i hi; simp [Gx.plus, Tg.ix] at hi ⊢; omega)))
    (ess_one (eret 5 (by first | decide | (simp [Gx.plus, Tg.ix]; done) | (intro i hi; simp [Gx.plus, Tg.ix] at hi ⊢; omega)))))))))
theorem q__law_told : FnScope ["_law_box", "_law_some"] ["_law_box", "_law_some"] (defScope s__law_told) := ⟨rfl, rfl, rfl, by decide +kernel, rfl, by decide +kernel, by decide +kernel⟩
theorem t__law_told (d : Def z.K mg "_law_told" s__law_told ["_law_box", "_law_some"]) (n_len : mg "len" = none) (c_Hierarchy_highest_common : CalMS P' w z.K mg base z.c_Hierarchy 4 2 "highest_common" (F_Hierarchy_highest_common z)) :
    Cal P' w z.K mg base 5 2 "_law_told" (F__law_told z) :=
  cal_mk (k := 4) (B := []) d q__law_told rfl (fun f cdv A fr s H E hg hr => have hu := hu_of hr; have hu64 := hu64_of hr; (ess_cons (es_if (et_cmp (op_eqA hr.units) o2_eq (ev_call1 call_lenA o1_len (by rfl) n_len (by decide +kernel) (epn 1)) (ep_of ev_int) (nomark _)) (ess_one (es_ret (er_methS c_Hierarchy_highest_common (evn 0) hg (hr.mono (by decide)) (fun σ => passAt (takes_of rfl rfl rfl rfl) σ) (ea_cons (eixn 1 hu ev_int) ea_nil)))) ess_nil)
    (ess_cons (es_if (et_cmp (op_eqA hr.units) o2_eq (ev_call1 call_lenA o1_len (by rfl) n_len (by decide +kernel) (epn 1)) (ep_of ev_int) (nomark _)) (ess_one (es_ret (er_methS c_Hierarchy_highest_common (evn 0) hg (hr.mono (by decide)) (fun σ => passAt (takes_of rfl rfl rfl rfl) σ) (ea_cons (eixn 1 hu ev_int) (ea_cons (eixn 1 hu ev_int) ea_nil))))) ess_nil)
    (ess_cons (es_if (et_cmp (op_eqA hr.units) o2_eq (ev_call1 call_lenA o1_len (by rfl) n_len (by decide +kernel) (epn 1)) (ep_of ev_int) (nomark _)) (ess_one (es_ret (er_methS c_Hierarchy_highest_common (evn 0) hg (hr.mono (by decide)) (fun σ => passAt (takes_of rfl rfl rfl rfl) σ) (ea_cons (eixn 1 hu ev_int) (ea_cons (eixn 1 hu ev_int) (ea_cons (eixn 1 hu ev_int) ea_nil)))))) ess_nil)
    (ess_cons (es_if (et_cmp (op_eqA hr.units) o2_eq (ev_call1 call_lenA o1_len (by rfl) n_len (by decide +kernel) (epn 1)) (ep_of ev_int) (nomark _)) (ess_one (es_ret (er_methS c_Hierarchy_highest_common (evn 0) hg (hr.mono (by decide)) (fun σ => passAt (takes_of rfl rfl rfl rfl) σ) (ea_cons (eixn 1 hu ev_int) (ea_cons (eixn 1 hu ev_int) (ea_cons (eixn 1 hu ev_int) (ea_cons (eixn 1 hu ev_int) ea_nil))))))) ess_nil)
    (ess_cons (es_if (et_cmp (op_eqA hr.units) o2_eq (ev_call1 call_lenA o1_len (by rfl) n_len (by decide +kernel) (epn 1)) (ep_of ev_int) (nomark _)) (ess_one (es_ret (er_methS c_Hierarchy_highest_common (evn 0) hg (hr.mono (by decide)) (fun σ => passAt (takes_of rfl rfl rfl rfl) σ) (ea_cons (eixn 1 hu ev_int) (ea_cons (eixn 1 hu ev_int) (ea_cons (eixn 1 hu ev_int) (ea_cons (eixn 1 hu ev_int) (ea_cons (eixn 1 hu ev_int) ea_nil)))))))) ess_nil)
    (ess_one (es_ret (er_methS c_Hierarchy_highest_common (evn 0) hg (hr.mono (by decide)) (fun σ => passAt (takes_of rfl rfl rfl rfl) σ) (ea_cons (eixn 1 hu ev_int) (ea_cons (eixn 1 hu ev_int) (ea_cons (eixn 1 hu ev_int) (ea_cons (eixn 1 hu ev_int) (ea_cons (eixn 1 hu ev_int) (ea_cons (eixn 1 hu ev_int) ea_nil)))))))))))))))
theorem q__law_missing : FnScope ["_law_box", "_law_some", "_law_told_here", "e"] ["_law_box", "_law_some"] (defScope s__law_missing) := ⟨rfl, rfl, rfl, by decide +kernel, rfl, by decide +kernel, by decide +kernel⟩
theorem t__law_missing (d : Def z.K mg "_law_missing" s__law_missing ["_law_box", "_law_some"]) (c__law_told : Cal P' w z.K mg base 5 2 "_law_told" (F__law_told z)) (xf_NotFound : XfC z.K z.c_NotFound) (nv_NotFound_value : PySem.W.findIn z.K (.ref z.c_NotFound) "value" = some none) (n_repr : mg "repr" = none) (g_NotFound : mg "NotFound" = some (.ref z.c_NotFound)) :
    Cal P' w z.K mg base 6 2 "_law_missing" (F__law_missing z) :=
  cal_mk (k := 5) (B := []) d q__law_missing rfl (fun f cdv A fr s H E hg hr => have hu := hu_of hr; have hu64 := hu64_of hr; (ess_cons (es_set (i := 2) q__law_missing.nd rfl (.inl rfl) (by first | decide | (simp [Gx.plus, Tg.ix]; done) | (intro i hi; simp [Gx.plus, Tg.ix] at hi ⊢; omega)) (er_vl ev_non))
    (ess_cons (es_tryK (K0 := z.K) (i := 3) (c := .ref z.c_NotFound) rfl rfl rfl q__law_missing.nd rfl rfl ⟨by rfl, by decide, .inl g_NotFound⟩ (takes_of rfl rfl rfl rfl) (by first | decide | (simp [Gx.plus, Tg.ix]; done) | (intro i hi; simp [Gx.plus, Tg.ix] at hi ⊢; omega)) (fun W pn xe tk _ => (ess_one (es_expr (ev_fz (er_callC c__law_told hg (hr.mono (by decide)) (by rfl) (fun σ => passAt tk σ) (ea_cons (evn 0) (ea_cons (evn 1) ea_nil))))))) (fun a oe cls dx pn hz ho => (ess_one (es_set (i := 2) q__law_missing.nd rfl (.inl rfl) (by first | decide | (simp [Gx.plus, Tg.ix]; done) | (intro i hi; simp [Gx.plus, Tg.ix] at hi ⊢; omega)) (er_vl (ev_call1 (call_reprA (by exact hg) (by exact hu64)) o1_repr (by rfl) n_repr (by decide +kernel) (ep_of (ev_exf xf_NotFound nv_NotFound_value hz ho (evn 3)))))))))
    (ess_one (eret 2 (by first | decide | (simp [Gx.plus, Tg.ix]; done) | (intro i hi; simp [Gx.plus, Tg.ix] at hi ⊢; omega)))))))
theorem q__law_missing_right : FnScope ["_law_pot_here", "_law_box", "_law_labels", "_law_odd", "_law_some", "_law_thing", "_law_at", "_law_later", "_law_turn", "_law_one"] ["_law_pot_here", "_law_box", "_law_labels"] (defScope s__law_missing_right) := ⟨rfl, rfl, rfl, by decide +kernel, rfl, by decide +kernel, by decide +kernel⟩
theorem t__law_missing_right (d : Def z.K mg "_law_missing_right" s__law_missing_right ["_law_pot_here", "_law_box", "_law_labels"]) (c__law_draw : Cal P' w z.K mg base 1 2 "_law_draw" (F__law_draw z)) (n_range : mg "range" = none) (n_len : mg "len" = none) (c__law_missing : Cal P' w z.K mg base 6 2 "_law_missing" (F__law_missing z)) (n_repr : mg "repr" = none) :
    Cal P' w z.K mg base 7 3 "_law_missing_right" (F__law_missing_right z) :=
  cal_mk (k := 6) (B := [0]) d q__law_missing_right rfl (fun f cdv A fr s H E hg hr => have hu := hu_of hr; have hu64 := hu64_of hr; (ess_cons (es_set (i := 3) q__law_missing_right.nd rfl (.inr rfl) (by first | decide | (simp [Gx.plus, Tg.ix]; done) | (intro i hi; simp [Gx.plus, Tg.ix] at hi ⊢; omega)) (er_lst (ea_cons ev_non (ea_cons ev_int (ea_cons ev_bl (ea_cons ev_str (ea_cons ev_str (ea_cons (ev_bm0 PySem.F.slot_str_upper PySem.F.type_str_upper mt_upper om_upper (eixn 2 hu ev_int)) (ea_cons (ev_fz (er_lst (ea_cons (eixn 2 hu ev_int) ea_nil))) (ea_cons (ev_tup (ea_cons (eixn 2 hu ev_int) ea_nil)) (ea_cons (ev_fz er_dict0) (ea_cons (ev_tup ea_nil) ea_nil))))))))))))
    (ess_cons (es_setLc (i := 4) (own := [("_law_turn", 8)]) (T := (.one 8)) (gt := (gName 8)) rfl q__law_missing_right.nd rfl rfl (by first | decide | (simp [Gx.plus, Tg.ix]; done) | (intro i hi; simp [Gx.plus, Tg.ix] at hi ⊢; omega)) (sw_true rfl rfl rfl (by decide +kernel)) (ei_range1 (by rfl) n_range (ev_bin op_addA o2_add ev_int (ep_of (ev_fz (er_callB (i := 0) c__law_draw hg (hr.mono (by decide)) (by rfl) (fun σ => passAt (takes_of rfl rfl rfl rfl) σ) rfl (by first | exact Or.inl rfl | exact Or.inr (Or.inl rfl) | exact Or.inr (Or.inr rfl)) (ea_cons ev_int ea_nil)))))) (blkOk_by (own := [("_law_turn", 8)]) (N := ["_law_pot_here", "_law_box", "_law_labels", "_law_odd", "_law_some", "_law_thing", "_law_at", "_law_later", "_law_turn", "_law_one"]) (sc := defScope s__law_missing_right) (by decide +kernel)) tg_one rfl (fun _ _ _ _ _ => (pg_name (i := 8) q__law_missing_right.nd rfl (by first | exact Or.inl rfl | exact Or.inr rfl))) (fun _ _ _ _ _ => pts0) (fun _ _ _ _ _ => (eixn 2 hu (ev_fz (er_callB (i := 0) c__law_draw hg (hr.mono (by decide)) (by rfl) (fun _ => pass_no) rfl (by first | exact Or.inl rfl | exact Or.inr (Or.inl rfl) | exact Or.inr (Or.inr rfl)) (ea_cons (ev_call1 call_lenA o1_len (by rfl) n_len (by decide +kernel) (epn 2)) ea_nil))))) (by decide) kp_nil kp_nil)
    (ess_cons (es_par (i := 5) (j := 6) rfl q__law_missing_right.nd rfl rfl (by decide) (by first | decide | (simp [Gx.plus, Tg.ix]; done) | (intro i hi; simp [Gx.plus, Tg.ix] at hi ⊢; omega)) (by first | decide | (simp [Gx.plus, Tg.ix]; done) | (intro i hi; simp [Gx.plus, Tg.ix] at hi ⊢; omega)) rfl rfl (ea_cons (eixn 3 hu (ev_fz (er_callB (i := 0) c__law_draw hg (hr.mono (by decide)) (by rfl) (fun σ => passAt (takes_of rfl rfl rfl rfl) σ) rfl (by first | exact Or.inl rfl | exact Or.inr (Or.inl rfl) | exact Or.inr (Or.inr rfl)) (ea_cons (ev_call1 call_lenA o1_len (by rfl) n_len (by decide +kernel) (epn 3)) ea_nil)))) (ea_cons (ev_fz (er_callB (i := 0) c__law_draw hg (hr.mono (by decide)) (by rfl) (fun σ => passAt (takes_of rfl rfl rfl rfl) σ) rfl (by first | exact Or.inl rfl | exact Or.inr (Or.inl rfl) | exact Or.inr (Or.inr rfl)) (ea_cons (ev_call1 call_lenA o1_len (by rfl) n_len (by decide +kernel) (epn 4)) ea_nil))) ea_nil)) rfl)
    (ess_cons (es_setLc (i := 7) (own := [("_law_one", 9)]) (T := (.one 9)) (gt := (gName 9)) rfl q__law_missing_right.nd rfl rfl (by first | decide | (simp [Gx.plus, Tg.ix]; done) | (intro i hi; simp [Gx.plus, Tg.ix] at hi ⊢; omega)) (sw_true rfl rfl rfl (by decide +kernel)) (ei_seq (ev_fz (er_slice (evn 4) (eo_some (ev_bin op_addA o2_add (evn 6) (ep_of ev_int))) eo_none))) (blkOk_by (own := [("_law_one", 9)]) (N := ["_law_pot_here", "_law_box", "_law_labels", "_law_odd", "_law_some", "_law_thing", "_law_at", "_law_later", "_law_turn", "_law_one"]) (sc := defScope s__law_missing_right) (by decide +kernel)) tg_one rfl (fun _ _ _ _ _ => (pg_name (i := 9) q__law_missing_right.nd rfl (by first | exact Or.inl rfl | exact Or.inr rfl))) (fun _ _ _ _ _ => pts0) (fun _ _ _ _ _ => (ev_if (et_cmp (op_eqA hr.units) o2_eq (ev_fz (er_callB (i := 0) c__law_draw hg (hr.mono (by decide)) (by rfl) (fun _ => pass_no) rfl (by first | exact Or.inl rfl | exact Or.inr (Or.inl rfl) | exact Or.inr (Or.inr rfl)) (ea_cons ev_int ea_nil))) (ep_of ev_int) (nomark _)) (evn 9) (eixn 3 hu (ev_fz (er_callB (i := 0) c__law_draw hg (hr.mono (by decide)) (by rfl) (fun _ => pass_no) rfl (by first | exact Or.inl rfl | exact Or.inr (Or.inl rfl) | exact Or.inr (Or.inr rfl)) (ea_cons (ev_call1 call_lenA o1_len (by rfl) n_len (by decide +kernel) (epn 3)) ea_nil)))))) (by decide) kp_nil kp_nil)
    (ess_one (es_ret (er_vl (ev_cmp (op_eqA hr.units) o2_eq (ev_fz (er_callC c__law_missing hg (hr.mono (by decide)) (by rfl) (fun σ => passAt (takes_of rfl rfl rfl rfl) σ) (ea_cons (evn 1) (ea_cons (ev_bin op_addA o2_add (ev_bin op_addA o2_add (ev_fz (er_slice (evn 4) eo_none (eo_some (evn 6)))) (ep_of (ev_fz (er_lst (ea_cons (evn 5) ea_nil))))) (epn 7)) ea_nil)))) (ep_of (ev_call1 (call_reprA (by exact hg) (by exact hu64)) o1_repr (by rfl) n_repr (by decide +kernel) (epn 5))) (nomark _))))))))))
theorem q__law_row_right : FnScope ["_law_pot_here", "_law_box", "_law_ups_here", "_law_some", "_law_due_here", "_law_told_here"] ["_law_pot_here", "_law_box", "_law_ups_here", "_law_some"] (defScope s__law_row_right) := ⟨rfl, rfl, rfl, by decide +kernel, rfl, by decide +kernel, by decide +kernel⟩
theorem t__law_row_right (d : Def z.K mg "_law_row_right" s__law_row_right ["_law_pot_here", "_law_box", "_law_ups_here", "_law_some"]) (c__law_due : Cal P' w z.K mg base 1 2 "_law_due" (F__law_due z)) (n_repr : mg "repr" = none) (c__law_told : Cal P' w z.K mg base 5 2 "_law_told" (F__law_told z)) (c__law_mixed : Cal P' w z.K mg base 2 2 "_law_mixed" (F__law_mixed z)) :
    Cal P' w z.K mg base 6 4 "_law_row_right" (F__law_row_right z) :=
  cal_mk (k := 5) (B := [0]) d q__law_row_right rfl (fun f cdv A fr s H E hg hr => have hu := hu_of hr; have hu64 := hu64_of hr; (ess_cons (es_set (i := 4) q__law_row_right.nd rfl (.inl rfl) (by first | decide | (simp [Gx.plus, Tg.ix]; done) | (intro i hi; simp [Gx.plus, Tg.ix] at hi ⊢; omega)) (er_vl (ev_call1 (call_reprA (by exact hg) (by exact hu64)) o1_repr (by rfl) n_repr (by decide +kernel) (ep_of (ev_fz (er_callC c__law_due hg (hr.mono (by decide)) (by rfl) (fun σ => passAt (takes_of rfl rfl rfl rfl) σ) (ea_cons (evn 2) (ea_cons (evn 3) ea_nil))))))))
    (ess_cons (es_set (i := 5) q__law_row_right.nd rfl (.inl rfl) (by first | decide | (simp [Gx.plus, Tg.ix]; done) | (intro i hi; simp [Gx.plus, Tg.ix] at hi ⊢; omega)) (er_callC c__law_told hg (hr.mono (by decide)) (by rfl) (fun σ => passAt (takes_of rfl rfl rfl rfl) σ) (ea_cons (evn 1) (ea_cons (evn 3) ea_nil))))
    (ess_cons (es_if (et_cmp (op_neA hr.units) o2_ne (ev_call1 (call_reprA (by exact hg) (by exact hu64)) o1_repr (by rfl) n_repr (by decide +kernel) (epn 5)) (epn 4) (nomark _)) (ess_one (es_ret (er_vl ev_bl))) ess_nil)
    (ess_cons (es_expr (ev_mut0 (i := 5) rfl (by first | exact Or.inl rfl | exact Or.inr (Or.inl rfl) | exact Or.inr (Or.inr rfl)) PySem.F.slot_list_reverse PySem.F.type_list_reverse mt_reverse om_reverse))
    (ess_cons (es_expr (ev_mut (i := 5) rfl (by first | exact Or.inl rfl | exact Or.inr (Or.inl rfl) | exact Or.inr (Or.inr rfl)) PySem.F.slot_list_append PySem.F.type_list_append mt_append om_append (ea_cons ev_non ea_nil)))
    (ess_one (es_ret (er_vl (ev_and (ev_cmp (op_eqA hr.units) o2_eq (ev_call1 (call_reprA (by exact hg) (by exact hu64)) o1_repr (by rfl) n_repr (by decide +kernel) (ep_of (ev_fz (er_callC c__law_told hg (hr.mono (by decide)) (by rfl) (fun σ => passAt (takes_of rfl rfl rfl rfl) σ) (ea_cons (evn 1) (ea_cons (ev_fz (er_callB (i := 0) c__law_mixed hg (hr.mono (by decide)) (by rfl) (fun σ => passAt (takes_of rfl rfl rfl rfl) σ) rfl (by first | exact Or.inl rfl | exact Or.inr (Or.inl rfl) | exact Or.inr (Or.inr rfl)) (ea_cons (evn 3) ea_nil))) ea_nil)))))) (epn 4) (nomark _)) (ev_one (ev_cmp (op_eqA hr.units) o2_eq (ev_call1 (call_reprA (by exact hg) (by exact hu64)) o1_repr (by rfl) n_repr (by decide +kernel) (ep_of (ev_fz (er_callC c__law_told hg (hr.mono (by decide)) (by rfl) (fun σ => passAt (takes_of rfl rfl rfl rfl) σ) (ea_cons (evn 1) (ea_cons (ev_fz (er_slice (ev_bin op_addA o2_add (evn 3) (epn 3)) eo_none (eo_some ev_int))) ea_nil)))))) (epn 4) (nomark _)))))))))))))
theorem q_law : FnScope ["_law_script", "_law_k", "_law_pot_here", "_law_rows", "_law_box", "_law_ups_here", "_law_labels", "_law_one", "_law_turn", "_law_due_here", "_law_some", "_law_row", "_law_other", "_law_step"] ["_law_script"] (defScope s_law) := ⟨rfl, rfl, rfl, by decide +kernel, rfl, by decide +kernel, by decide +kernel⟩
theorem tl_law {f : Addr} {fd : FuncData} (U : Fun z.K "law" "law" s_law f fd) (n_len : mg "len" = none) (n_min : mg "min" = none) (n_max : mg "max" = none) (n_range : mg "range" = none) (c__law_pot : Cal P' w z.K mg base 1 2 "_law_pot" (F__law_pot z)) (c__law_kinds : Cal P' w z.K mg base 4 2 "_law_kinds" (F__law_kinds z)) (c__law_ups : Cal P' w z.K mg base 2 1 "_law_ups" (F__law_ups z)) (mkHier : MkHi P' w z.K mg base z.c_Hierarchy 3) (c__law_due : Cal P' w z.K mg base 1 2 "_law_due" (F__law_due z)) (c_Hierarchy_highest_common : CalMS P' w z.K mg base z.c_Hierarchy 4 2 "highest_common" (F_Hierarchy_highest_common z)) (n_repr : mg "repr" = none) (c__law_draw : Cal P' w z.K mg base 1 2 "_law_draw" (F__law_draw z)) (c__law_missing_right : Cal P' w z.K mg base 7 3 "_law_missing_right" (F__law_missing_right z)) (c__law_row_right : Cal P' w z.K mg base 6 4 "_law_row_right" (F__law_row_right z)) :
    FnG P' w z.K mg base (L2.CX P' w) 8 f fd ["_law_script"] (spP z.K 1 (F_law z)) :=
  law_mk (k := 7) (n := 1) (B := []) U q_law rfl (fun f cdv A fr s H E hg hr => have hu := hu_of hr; have hu64 := hu64_of hr; (ess_cons (es_for0 (T := (.one 1)) (gt := (gName 1)) (passes_of rfl) rfl (ei_range1 (by rfl) n_range (ev_callA (call_max2 rfl) oa_max (by rfl) n_max (by decide +kernel) (ea_cons ev_int (ea_cons (ev_callA (call_min2 rfl) oa_min (by rfl) n_min (by decide +kernel) (ea_cons (ev_call1 call_lenA o1_len (by rfl) n_len (by decide +kernel) (epn 0)) (ea_cons ev_int ea_nil))) ea_nil)))) (pg_name (i := 1) q_law.nd rfl (.inl rfl)) tg_one (ess_cons (es_set (i := 2) q_law.nd rfl (.inr rfl) (by first | decide | (simp [Gx.plus, Tg.ix]; done) | (intro i hi; simp [Gx.plus, Tg.ix] at hi ⊢; omega)) (er_callC c__law_pot hg (hr.mono (by decide)) (by rfl) (fun σ => passAt (takes_of rfl rfl rfl rfl) σ) (ea_cons (evn 0) (ea_cons (evn 1) ea_nil))))
    (ess_cons (es_set (i := 3) q_law.nd rfl (.inl rfl) (by first | decide | (simp [Gx.plus, Tg.ix]; done) | (intro i hi; simp [Gx.plus, Tg.ix] at hi ⊢; omega)) (er_callB (i := 2) c__law_kinds hg (hr.mono (by decide)) (by rfl) (fun σ => passAt (takes_of rfl rfl rfl rfl) σ) rfl (by first | exact Or.inl rfl | exact Or.inr (Or.inl rfl) | exact Or.inr (Or.inr rfl)) (ea_cons ev_int ea_nil)))
    (ess_cons (es_tup (T := (.many [4, 5, 6])) (gt := (gTup _ 3 (gNames [4, 5, 6]))) (ev_tup (ea_cons (ev_fz (er_makeHC mkHier (hr.mono (by decide)) (by rfl) (evn 3))) (ea_cons (ev_fz (er_callC c__law_ups hg (hr.mono (by decide)) (by rfl) (fun σ => passAt (takes_of rfl rfl rfl rfl) σ) (ea_cons (evn 3) ea_nil))) (ea_cons (ev_fz (er_lc (own := [("_law_row", 11)]) (T := (.one 11)) (gt := (gName 11)) rfl q_law.nd (ei_seq (evn 3)) (blkOk_by (own := [("_law_row", 11)]) (N := ["_law_script", "_law_k", "_law_pot_here", "_law_rows", "_law_box", "_law_ups_here", "_law_labels", "_law_one", "_law_turn", "_law_due_here", "_law_some", "_law_row", "_law_other", "_law_step"]) (sc := defScope s_law) (by decide +kernel)) tg_one rfl (fun _ _ _ _ _ => (pg_name (i := 11) q_law.nd rfl (by first | exact Or.inl rfl | exact Or.inr rfl))) (fun _ _ _ _ _ => pts0) (fun _ _ _ _ _ => (eixn 11 hu ev_int)) (by decide) kp_nil kp_nil)) ea_nil)))) (pg_tup (by rfl) (pgs_cons (pg_name (i := 4) q_law.nd rfl (.inr rfl)) (pgs_cons (pg_name (i := 5) q_law.nd rfl (.inr rfl)) (pgs_cons (pg_name (i := 6) q_law.nd rfl (.inr rfl)) pgs_nil)))) (tg_many (is := [4, 5, 6])) (by first | decide | (simp [Gx.plus, Tg.ix]; done) | (intro i hi; simp [Gx.plus, Tg.ix] at hi ⊢; omega)))
    (ess_cons (es_for0 (T := (.one 7)) (gt := (gName 7)) (passes_of rfl) rfl (ei_seq (evn 6)) (pg_name (i := 7) q_law.nd rfl (.inr rfl)) tg_one (ess_cons (es_setLc (i := 9) (own := [("_law_other", 12)]) (T := (.one 12)) (gt := (gName 12)) rfl q_law.nd rfl rfl (by first | decide | (simp [Gx.plus, Tg.ix]; done) | (intro i hi; simp [Gx.plus, Tg.ix] at hi ⊢; omega)) (sw_true rfl rfl rfl (by decide +kernel)) (ei_seq (evn 6)) (blkOk_by (own := [("_law_other", 12)]) (N := ["_law_script", "_law_k", "_law_pot_here", "_law_rows", "_law_box", "_law_ups_here", "_law_labels", "_law_one", "_law_turn", "_law_due_here", "_law_some", "_law_row", "_law_other", "_law_step"]) (sc := defScope s_law) (by decide +kernel)) tg_one rfl (fun _ _ _ _ _ => (pg_name (i := 12) q_law.nd rfl (by first | exact Or.inl rfl | exact Or.inr rfl))) (fun _ _ _ _ _ => pts0) (fun _ _ _ _ _ => (ev_fz (er_callC c__law_due hg (hr.mono (by decide)) (by rfl) (fun _ => pass_no) (ea_cons (evn 5) (ea_cons (ev_fz (er_lst (ea_cons (evn 7) (ea_cons (evn 12) ea_nil)))) ea_nil))))) (by decide) kp_nil kp_nil)
    (ess_one (es_if (et_cmp (op_neA hr.units) o2_ne (ev_call1 (call_reprA (by exact hg) (by exact hu64)) o1_repr (by rfl) n_repr (by decide +kernel) (ep_of (ev_fz (er_lc (own := [("_law_other", 12)]) (T := (.one 12)) (gt := (gName 12)) rfl q_law.nd (ei_seq (evn 6)) (blkOk_by (own := [("_law_other", 12)]) (N := ["_law_script", "_law_k", "_law_pot_here", "_law_rows", "_law_box", "_law_ups_here", "_law_labels", "_law_one", "_law_turn", "_law_due_here", "_law_some", "_law_row", "_law_other", "_law_step"]) (sc := defScope s_law) (by decide +kernel)) tg_one rfl (fun _ _ _ _ _ => (pg_name (i := 12) q_law.nd rfl (by first | exact Or.inl rfl | exact Or.inr rfl))) (fun _ _ _ _ _ => pts0) (fun _ _ _ _ _ => (ev_fz (er_methS c_Hierarchy_highest_common (evn 4) hg (hr.mono (by decide)) (fun _ => pass_no) (ea_cons (evn 7) (ea_cons (evn 12) ea_nil))))) (by decide) kp_nil kp_nil)))) (ep_of (ev_call1 (call_reprA (by exact hg) (by exact hu64)) o1_repr (by rfl) n_repr (by decide +kernel) (epn 9))) (nomark _)) (ess_one (es_ret (er_vl ev_bl))) ess_nil))) (by first | decide | (simp [Gx.plus, Tg.ix]; done) | (intro i hi; simp [Gx.plus, Tg.ix] at hi ⊢; omega)))
    (ess_one (es_for0 (T := (.one 8)) (gt := (gName 8)) (passes_of rfl) rfl (ei_range1 (by rfl) n_range ev_int) (pg_name (i := 8) q_law.nd rfl (.inl rfl)) tg_one (ess_cons (es_setLc (i := 10) (own := [("_law_step", 13)]) (T := (.one 13)) (gt := (gName 13)) rfl q_law.nd rfl rfl (by first | decide | (simp [Gx.plus, Tg.ix]; done) | (intro i hi; simp [Gx.plus, Tg.ix] at hi ⊢; omega)) (sw_true rfl rfl rfl (by decide +kernel)) (ei_range1 (by rfl) n_range (ev_bin op_addA o2_add ev_int (ep_of (ev_fz (er_callB (i := 2) c__law_draw hg (hr.mono (by decide)) (by rfl) (fun σ => passAt (takes_of rfl rfl rfl rfl) σ) rfl (by first | exact Or.inl rfl | exact Or.inr (Or.inl rfl) | exact Or.inr (Or.inr rfl)) (ea_cons ev_int ea_nil)))))) (blkOk_by (own := [("_law_step", 13)]) (N := ["_law_script", "_law_k", "_law_pot_here", "_law_rows", "_law_box", "_law_ups_here", "_law_labels", "_law_one", "_law_turn", "_law_due_here", "_law_some", "_law_row", "_law_other", "_law_step"]) (sc := defScope s_law) (by decide +kernel)) tg_one rfl (fun _ _ _ _ _ => (pg_name (i := 13) q_law.nd rfl (by first | exact Or.inl rfl | exact Or.inr rfl))) (fun _ _ _ _ _ => pts0) (fun _ _ _ _ _ => (eixn 6 hu (ev_fz (er_callB (i := 2) c__law_draw hg (hr.mono (by decide)) (by rfl) (fun _ => pass_no) rfl (by first | exact Or.inl rfl | exact Or.inr (Or.inl rfl) | exact Or.inr (Or.inr rfl)) (ea_cons (ev_call1 call_lenA o1_len (by rfl) n_len (by decide +kernel) (epn 6)) ea_nil))))) (by decide) kp_nil kp_nil)
    (ess_one (es_if (et_w (ew_or (et_not (et_val (ev_fz (er_callB (i := 2) c__law_row_right hg (hr.mono (by decide)) (by rfl) (fun σ => passAt (takes_of rfl rfl rfl rfl) σ) rfl (by first | exact Or.inl rfl | exact Or.inr (Or.inl rfl) | exact Or.inr (Or.inr rfl)) (ea_cons (evn 4) (ea_cons (evn 5) (ea_cons (evn 10) ea_nil))))))) (ew_or1 (et_not (et_val (ev_fz (er_callB (i := 2) c__law_missing_right hg (hr.mono (by decide)) (by rfl) (fun σ => passAt (takes_of rfl rfl rfl rfl) σ) rfl (by first | exact Or.inl rfl | exact Or.inr (Or.inl rfl) | exact Or.inr (Or.inr rfl)) (ea_cons (evn 4) (ea_cons (evn 6) ea_nil))))))))) (ess_one (es_ret (er_vl ev_bl))) ess_nil))) (by first | decide | (simp [Gx.plus, Tg.ix]; done) | (intro i hi; simp [Gx.plus, Tg.ix] at hi ⊢; omega)))))))) (by first | decide | (simp [Gx.plus, Tg.ix]; done) | (intro i hi; simp [Gx.plus, Tg.ix] at hi ⊢; omega)))
    (ess_one (es_ret (er_vl ev_bl)))))
end
end Lw
/-! More about steps: sizes, written lists, loops, defs. -/
namespace Pu
open PySem PySem.Spec PyProof.Rows L2 Kv
theorem small_le {α : Type} {xs : List α} (h : Nat.ble xs.length 1000 = true) : xs.length ≤ sizeLine := Nat.le_trans (Nat.le_of_ble_eq_true h) (by rw [sizeLine_eq]; decide)
theorem le_line {n : Nat} (h : n ≤ 100000) : n ≤ sizeLine := Nat.le_trans h (by rw [sizeLine_eq]; decide)
theorem lt_line {n : Nat} (h : n < 100000) : n < sizeLine := Nat.lt_of_lt_of_le h (by rw [sizeLine_eq]; decide)
section
variable {ρ : En} {N B C : En → Prop} {T : R → En → Prop} {E : QE} {i j : Nat}
theorem s_gdO {f : S} {d : D} (e : ρ[i]? = some (.own d)) (h : WS f ρ N T B C E) : WS (gdO i f) ρ N T B C E := by
  unfold WS at h ⊢; unfold gdO; rw [e]; exact h
theorem s_gSub {fi : P D} {d : D} (h : WS (gdO i (sb fi fun j => stIx i j d)) ρ N T B C E) : WS (gSub i fi d) ρ N T B C E := h
theorem s_gPut {fi : P D} {d : D} (h : WS (gdO i (sb fi fun j => stPut i j d)) ρ N T B C E) : WS (gPut i fi d) ρ N T B C E := h
theorem s_stIx {xs : List D} {k : Int} {n : Nat} {d : D} (e : ρ[i]? = some (.own (.lst xs))) (hn : L2.ixN xs.length k = some n) (h : N (ρ.set i (.own (.lst (xs.set n d))))) : WS (stIx i (.int k) d) ρ N T B C E := by
  unfold WS stIx; simp only [e, hn]; exact h
/-- a def -/
theorem w_fn {n : Nat} {as : En} {b : List Nat} {body : S} {Q : R → En → Prop} (hl : lent b 0 as = true) (h : WS body (as ++ List.replicate (n - as.length) .un) (fun ρ => Q (.val .non) (outs as ρ)) (fun r ρ => Q r (outs as ρ)) (fun _ => False) (fun _ => False) (fun c ns ds ρ => E c ns ds (outs as ρ))) : W (fnP n b body) as Q E := by
  unfold W fnP
  rw [if_pos hl]
  unfold WS at h
  split at h
  · exact h.elim
  · rename_i z; rw [z]; exact h
  · rename_i z; rw [z]; exact h
  · exact h.elim
  · exact h.elim
  · rename_i z; rw [z]; exact h
end
section
variable {ρ : En} {E : QE} {Q : R → En → Prop}
/-! ### comprehensions -/
theorem w_lc {fi : P (List D)} {T : Tg} {ft : P Bool} {fe : P D} (h : W fi ρ (fun ds ρ1 => ∃ ys ρ2, lcL T ft fe ds (wipeE ρ1 T.ix) [] = some (ys, ρ2) ∧ Q (.own (.lst ys)) ρ2) E) : W (lc fi T ft fe) ρ Q E := by
  unfold W lc
  unfold W at h
  split at h
  · exact h.elim
  · rename_i z; obtain ⟨ys, ρ2, e, h⟩ := h; simp only [z, e]; exact h
  · rename_i z; simp only [z]; exact h
/-- nothing is raised -/
def NX : QE := fun _ _ _ _ => False
/-- one turn: the element, or nothing -/
def LT (T : Tg) (ft : P Bool) (fe : P D) (d : D) (ρ : En) (K : Option D → En → Prop) : Prop :=
  ∃ ρ1, gset T d ρ = some ρ1 ∧ W ft ρ1 (fun b ρ2 => if b = true then W fe ρ2 (fun y ρ3 => K (some y) (wipeE ρ3 T.ix)) NX else K none (wipeE ρ2 T.ix)) NX
theorem lcL_step {T : Tg} {ft : P Bool} {fe : P D} {d : D} {ds acc : List D} {K : Option D → En → Prop} {Z : List D → En → Prop} (ha : acc.length < sizeLine) (h : LT T ft fe d ρ K)
    (hk : ∀ o ρ', K o ρ' → ∃ ys ρ2, lcL T ft fe ds ρ' (acc ++ o.toList) = some (ys, ρ2) ∧ Z ys ρ2) : ∃ ys ρ2, lcL T ft fe (d :: ds) ρ acc = some (ys, ρ2) ∧ Z ys ρ2 := by
  obtain ⟨ρ1, e, h⟩ := h
  unfold W at h
  split at h
  · exact h.elim
  · rename_i b ρ2 z
    cases b with
    | false =>
      obtain ⟨ys, ρ3, e2, hz⟩ := hk none _ h
      exact ⟨ys, ρ3, by unfold lcL; simp only [e, z]; rw [Option.toList_none, List.append_nil] at e2; exact e2, hz⟩
    | true =>
      rw [if_pos rfl] at h
      split at h
      · exact h.elim
      · rename_i y ρ3 z2
        obtain ⟨ys, ρ4, e2, hz⟩ := hk (some y) _ h
        exact ⟨ys, ρ4, by unfold lcL; simp only [e, z, z2, if_pos ha]; exact e2, hz⟩
      · exact h.elim
  · exact h.elim
theorem lc_list' {β : Type} {T : Tg} {ft : P Bool} {fe : P D} (f : β → D) {Z : List D → En → Prop} (all : List β) (hb : all.length ≤ 100000) (I : List β → List D → En → Prop)
    (hs : ∀ dn x td acc ρ, all = dn ++ x :: td → I dn acc ρ → LT T ft fe (f x) ρ (fun o ρ' => I (dn ++ [x]) (acc ++ o.toList) ρ')) (hN : ∀ acc ρ, I all acc ρ → Z acc ρ) :
    ∀ (xs dn : List β) {ρ : En} {acc : List D}, all = dn ++ xs → acc.length ≤ dn.length → I dn acc ρ → ∃ ys ρ2, lcL T ft fe (xs.map f) ρ acc = some (ys, ρ2) ∧ Z ys ρ2
  | [], dn, ρ, acc, e, hl, h0 => ⟨acc, ρ, rfl, hN _ _ (by rw [e, List.append_nil]; exact h0)⟩
  | x :: xs, dn, ρ, acc, e, hl, h0 => by
    have hl2 : dn.length + (xs.length + 1) ≤ 100000 := by rw [e, List.length_append, List.length_cons] at hb; exact hb
    refine lcL_step (lt_line (by omega)) (hs dn x xs acc ρ e h0) fun o ρ' h => ?_
    have ho : o.toList.length ≤ 1 := by cases o <;> simp
    exact lc_list' f all hb I hs hN xs (dn ++ [x]) (by rw [e, List.append_assoc]; rfl) (by rw [List.length_append, List.length_append]; exact Nat.add_le_add hl ho) h
/-- by an invariant over what is done, what is made, the names -/
theorem lc_list {β : Type} {T : Tg} {ft : P Bool} {fe : P D} (f : β → D) {Z : List D → En → Prop} (all : List β) (hb : all.length ≤ 100000) (I : List β → List D → En → Prop) (h0 : I [] [] ρ)
    (hs : ∀ dn x td acc ρ, all = dn ++ x :: td → I dn acc ρ → LT T ft fe (f x) ρ (fun o ρ' => I (dn ++ [x]) (acc ++ o.toList) ρ')) (hN : ∀ acc ρ, I all acc ρ → Z acc ρ) : ∃ ys ρ2, lcL T ft fe (all.map f) ρ [] = some (ys, ρ2) ∧ Z ys ρ2 :=
  lc_list' f all hb I hs hN all [] rfl (Nat.le_refl _) h0
theorem fm_snoc {β γ : Type} {g : β → Option γ} {dn : List β} {x : β} : dn.filterMap g ++ (g x).toList = (dn ++ [x]).filterMap g := by
  rw [List.filterMap_append]
  cases h : g x <;> simp [List.filterMap_cons, h]
/-- the element is a function of the item, the names stay -/
theorem lc_pure {β : Type} {T : Tg} {ft : P Bool} {fe : P D} (f : β → D) (g : β → Option D) {Z : List D → En → Prop} (xs : List β) (hl : xs.length ≤ 100000)
    (hs : ∀ x ∈ xs, LT T ft fe (f x) ρ (fun o ρ' => o = g x ∧ ρ' = ρ)) (hZ : Z (xs.filterMap g) ρ) : ∃ ys ρ2, lcL T ft fe (xs.map f) ρ [] = some (ys, ρ2) ∧ Z ys ρ2 := by
  refine lc_list f xs hl (fun dn acc ρ' => acc = dn.filterMap g ∧ ρ' = ρ) ⟨rfl, rfl⟩ (fun dn x td acc ρ' e h => ?_) fun acc ρ' h => ?_
  · obtain ⟨rfl, rfl⟩ := h
    obtain ⟨ρ1, e1, h⟩ := hs x (by rw [e]; simp)
    refine ⟨ρ1, e1, h.mono (fun b ρ2 h => ?_) fun _ _ _ _ h => h⟩
    split
    · rename_i hb
      rw [if_pos hb] at h
      refine h.mono (fun y ρ3 h => ⟨?_, h.2⟩) fun _ _ _ _ h => h
      rw [h.1, fm_snoc]
    · rename_i hb
      rw [if_neg hb] at h
      refine ⟨?_, h.2⟩
      rw [h.1, fm_snoc]
  · obtain ⟨rfl, rfl⟩ := h
    exact hZ
theorem lc_map {β : Type} {T : Tg} {ft : P Bool} {fe : P D} (f : β → D) (g : β → D) {Z : List D → En → Prop} (xs : List β) (hl : xs.length ≤ 100000)
    (hs : ∀ x ∈ xs, LT T ft fe (f x) ρ (fun o ρ' => o = some (g x) ∧ ρ' = ρ)) (hZ : Z (xs.map g) ρ) : ∃ ys ρ2, lcL T ft fe (xs.map f) ρ [] = some (ys, ρ2) ∧ Z ys ρ2 :=
  lc_pure f (fun x => some (g x)) xs hl hs (by rw [show (fun x => some (g x)) = some ∘ g from rfl, List.filterMap_eq_map]; exact hZ)
theorem lc_filter {β : Type} {T : Tg} {ft : P Bool} {fe : P D} (f : β → D) (p : β → Bool) (g : β → D) {Z : List D → En → Prop} (xs : List β) (hl : xs.length ≤ 100000)
    (hs : ∀ x ∈ xs, LT T ft fe (f x) ρ (fun o ρ' => o = (if p x = true then some (g x) else none) ∧ ρ' = ρ)) (hZ : Z ((xs.filter p).map g) ρ) : ∃ ys ρ2, lcL T ft fe (xs.map f) ρ [] = some (ys, ρ2) ∧ Z ys ρ2 := by
  refine lc_pure f (fun x => if p x = true then some (g x) else none) xs hl hs ?_
  have : xs.filterMap (fun x => if p x = true then some (g x) else none) = (xs.filter p).map g := by
    clear hs hZ hl
    induction xs with
    | nil => rfl
    | cons a l ih =>
      rw [List.filterMap_cons, List.filter_cons]
      cases p a <;> simp [ih]
  rw [this]; exact hZ
end
theorem exOwn {d : D} {t : En} {G : D → En → Prop} (h : G d t) : ∃ d' t', (Slot.own d :: t) = Slot.own d' :: t' ∧ G d' t' := ⟨d, t, rfl, h⟩
theorem pIteT {A B : Prop} (h : A) : if true = true then A else B := by rw [if_pos rfl]; exact h
theorem pIteF {A B : Prop} (h : B) : if false = true then A else B := by rw [if_neg (by decide)]; exact h
theorem pIteB {A B : Prop} {c : Bool} (h1 : c = true → A) (h2 : c = false → B) : if c = true then A else B := by
  cases c
  · exact pIteF (h2 rfl)
  · exact pIteT (h1 rfl)
/-! ### operators -/
section
variable {ρ : En} {E : QE}
theorem w_pow18 {Q : D → En → Prop} (h : Q (.int 1000000000000000000) ρ) : W (lft (opPow (.int 10) (.int 18))) ρ Q E := by
  have e : opPow (.int 10) (.int 18) = some (.int 1000000000000000000) := by
    unfold opPow oI
    simp
  exact w_lft e h
theorem opMul_i {i j : Int} (h : (-(2 ^ 64) < i ∧ i < 2 ^ 64) ∨ (-(2 ^ 64) < j ∧ j < 2 ^ 64)) : opMul (.int i) (.int j) = some (.int (i * j)) := by
  unfold opMul opMulI oI
  have : cMul i j = true := decide_eq_true h
  simp [this]
theorem opFdiv_i {i j : Int} (h : 0 < j ∧ j < 1073741824) : opFdiv (.int i) (.int j) = some (.int (i / j)) := by unfold opFdiv oI; simp [h]
theorem opMod_i {i j : Int} (h : 0 < j) : opMod (.int i) (.int j) = some (.int (i % j)) := by unfold opMod oI; simp [h]
theorem dvm_i {i j : Int} (h : 0 < j ∧ j ≤ 1000000000000) : dvm [.int i, .int j] = some (.tup [.int (i / j), .int (i % j)]) := by unfold dvm i2; simp [h]
theorem rng1_n {n : Nat} (h : n ≤ 100000) : rng1 (.int n) = some ((List.range n).map fun i => .int ((i : Nat) : Int)) := by
  simp only [rng1]
  rw [if_pos ⟨by omega, by omega⟩]
  unfold rngD
  simp
variable {i j : Int} {Q : D → En → Prop}
theorem w_add (h : Q (.int (i + j)) ρ) : W (lft (opAdd (.int i) (.int j))) ρ Q E := w_lft rfl h
theorem w_sub (h : Q (.int (i - j)) ρ) : W (lft (opSub (.int i) (.int j))) ρ Q E := w_lft rfl h
theorem w_lt (h : Q (.bl (decide (i < j))) ρ) : W (lft (opLt (.int i) (.int j))) ρ Q E := w_lft rfl h
theorem w_le (h : Q (.bl (decide (i ≤ j))) ρ) : W (lft (opLe (.int i) (.int j))) ρ Q E := w_lft rfl h
theorem w_gt (h : Q (.bl (decide (j < i))) ρ) : W (lft (opGt (.int i) (.int j))) ρ Q E := w_lft rfl h
theorem w_ge (h : Q (.bl (decide (j ≤ i))) ρ) : W (lft (opGe (.int i) (.int j))) ρ Q E := w_lft rfl h
theorem w_mod (c : 0 < j) (h : Q (.int (i % j)) ρ) : W (lft (opMod (.int i) (.int j))) ρ Q E := w_lft (opMod_i c) h
theorem w_fdiv (c : 0 < j ∧ j < 1073741824) (h : Q (.int (i / j)) ρ) : W (lft (opFdiv (.int i) (.int j))) ρ Q E := w_lft (opFdiv_i c) h
theorem w_mul (c : (-(2 ^ 64) < i ∧ i < 2 ^ 64) ∨ (-(2 ^ 64) < j ∧ j < 2 ^ 64)) (h : Q (.int (i * j)) ρ) : W (lft (opMul (.int i) (.int j))) ρ Q E := w_lft (opMul_i c) h
theorem w_dvm (c : 0 < j ∧ j ≤ 1000000000000) (h : Q (.tup [.int (i / j), .int (i % j)]) ρ) : W (lft (dvm [.int i, .int j])) ρ Q E := w_lft (dvm_i c) h
theorem w_max (h : Q (.int (if j > i then j else i)) ρ) : W (lft (maxI [.int i, .int j])) ρ Q E := w_lft rfl h
theorem w_min (h : Q (.int (if j < i then j else i)) ρ) : W (lft (minI [.int i, .int j])) ρ Q E := w_lft rfl h
theorem w_abs (h : Q (.int (if i < 0 then -i else i)) ρ) : W (lft (absI [.int i])) ρ Q E := w_lft rfl h
theorem w_asB {b : Bool} {Q : Bool → En → Prop} (h : Q b ρ) : W (lft (asB (.bl b))) ρ Q E := w_lft rfl h
theorem w_asI {Q : Option Int → En → Prop} (h : Q (some i) ρ) : W (lft (asI (.int i))) ρ Q E := w_lft rfl h
theorem w_lenL {xs : List D} (h : Q (.int xs.length) ρ) : W (lft (lenD (.lst xs))) ρ Q E := w_lft rfl h
theorem w_lenT {xs : List D} (h : Q (.int xs.length) ρ) : W (lft (lenD (.tup xs))) ρ Q E := w_lft rfl h
theorem w_lenF {xs : List D} (h : Q (.int xs.length) ρ) : W (lft (lenD (.flst xs))) ρ Q E := w_lft rfl h
theorem w_lenD {ks : List Key} {xs : List D} (h : Q (.int ks.length) ρ) : W (lft (lenD (.dic ks xs))) ρ Q E := w_lft rfl h
theorem w_lenS {x : Str} (c : x.length ≤ 100000) (h : Q (.int x.length) ρ) : W (lft (lenD (.str x))) ρ Q E := w_lft (a := .int x.length) (by simp only [lenD, if_pos (le_line c)]) h
theorem w_seqL {xs : List D} {Q : List D → En → Prop} (h : Q xs ρ) : W (lft (seqD (.lst xs))) ρ Q E := w_lft rfl h
theorem w_seqT {xs : List D} {Q : List D → En → Prop} (h : Q xs ρ) : W (lft (seqD (.tup xs))) ρ Q E := w_lft rfl h
theorem w_seqF {xs : List D} {Q : List D → En → Prop} (h : Q xs ρ) : W (lft (seqD (.flst xs))) ρ Q E := w_lft rfl h
theorem w_strP {x : Str} {Q : List D → En → Prop} (h : Q (lettersD x) ρ) : W (lft (strP (.str x))) ρ Q E := w_lft rfl h
theorem w_tupL {xs : List D} (h : Q (.tup xs) ρ) : W (lft (tupD (.lst xs))) ρ Q E := w_lft rfl h
theorem w_tupT {xs : List D} (h : Q (.tup xs) ρ) : W (lft (tupD (.tup xs))) ρ Q E := w_lft rfl h
theorem w_rng {n : Nat} {Q : List D → En → Prop} (c : n ≤ 100000) (h : Q ((List.range n).map fun i => .int ((i : Nat) : Int)) ρ) : W (lft (rng1 (.int n))) ρ Q E := by
  have e := rng1_n c
  generalize rng1 (.int n) = o at e ⊢
  exact w_lft e h
theorem w_keys {ks : List Key} {vs : List D} {Q : List D → En → Prop} (h : Q (ks.map keyD) ρ) : W (lft (keysD (.dic ks vs))) ρ Q E := w_lft rfl h
theorem w_cutL {xs : List D} {l u : Option Int} {Q : R → En → Prop} (h : Q (.own (.lst (cutD xs l u))) ρ) : W (lft ((lstOf (.lst xs)).map fun xs => R.own (.lst (cutD xs l u)))) ρ Q E := w_lft rfl h
theorem w_revL {xs : List D} {Q : R → En → Prop} (h : Q (.own (.lst xs.reverse)) ρ) : W (lft (revO (.lst xs))) ρ Q E := w_lft rfl h
theorem w_listL {xs : List D} {Q : R → En → Prop} (h : Q (.own (.lst xs)) ρ) : W (lft (listP (.lst xs))) ρ Q E := w_lft rfl h
theorem w_isN {d : D} (h : Q (.bl (isN d)) ρ) : W (lft (opIs d .non)) ρ Q E := w_lft rfl h
theorem w_isNotN {d : D} (h : Q (.bl (!isN d)) ρ) : W (lft (opIsNot d .non)) ρ Q E := w_lft rfl h
theorem w_ixL {xs : List D} {n : Nat} {d : D} (c : xs[n]? = some d) (h : Q d ρ) : W (lft (ixD (.lst xs) (.int n))) ρ Q E := w_lft (L2.atI_nat c) h
theorem w_ixF {xs : List D} {n : Nat} {d : D} (c : xs[n]? = some d) (h : Q d ρ) : W (lft (ixD (.flst xs) (.int n))) ρ Q E := w_lft (L2.atI_nat c) h
theorem w_ixT {xs : List D} {n : Nat} {d : D} (c : xs[n]? = some d) (h : Q d ρ) : W (lft (ixD (.tup xs) (.int n))) ρ Q E := w_lft (L2.atI_nat c) h
theorem w_ixL0 {x : D} {xs : List D} (h : Q x ρ) : W (lft (ixD (.lst (x :: xs)) (.int 0))) ρ Q E := w_lft (L2.atI_nat (j := 0) rfl : L2.atI (x :: xs) ((0 : Nat) : Int) = some x) h
/-- a written place in a list -/
theorem w_ixLw {xs : List D} {i : Int} {d : D} (c : L2.atI xs i = some d) (h : Q d ρ) : W (lft (ixD (.lst xs) (.int i))) ρ Q E := w_lft c h
theorem w_ixTw {xs : List D} {i : Int} {d : D} (c : L2.atI xs i = some d) (h : Q d ρ) : W (lft (ixD (.tup xs) (.int i))) ρ Q E := w_lft c h
end
/-! ### texts and their lists -/
theorem perm_erase {α : Type} : ∀ (l : List α) (i : Nat) (x : α), l[i]? = some x → (x :: l.eraseIdx i).Perm l
  | [], i, x, h => by simp at h
  | y :: r, 0, x, h => by
    have e : y = x := by simpa using h
    subst e
    exact List.Perm.refl _
  | y :: r, i + 1, x, h => by
    have ih := perm_erase r i x (by simpa using h)
    exact (List.Perm.swap y x (r.eraseIdx i)).trans (ih.cons y)
theorem len_erase {α : Type} {l : List α} {i : Nat} {x : α} (h : l[i]? = some x) : (l.eraseIdx i).length + 1 = l.length :=
  (perm_erase l i x h).length_eq
theorem seqIx {d : Int} {n : Nat} (h0 : 0 ≤ d) (h1 : d < n) : seqIndex? d n = some d.toNat := by
  unfold seqIndex?
  simp only [show ¬ d < 0 by omega, if_false]
  simp [h0, h1]
/-- one letter each -/
theorem join_az : ∀ ys : List Str, (∀ y ∈ ys, ∃ c, c ∈ az ∧ y = ⟨#[c]⟩) →
    (Txt.join "" ys).length = ys.length ∧ ∀ c ∈ (Txt.join "" ys).cps.toList, c ∈ az := by
  intro ys hy
  have e : (Txt.join "" ys).cps.toList = (ys.map TL.tl).flatten := by
    rw [TL.join_eq]
    show TL.tl (Str.join _ _) = _
    rw [TL.tl_join]
    exact joinL_nil _
  refine ⟨?_, fun c hc => ?_⟩
  · rw [Kv.len_list, e]
    clear e
    induction ys with
    | nil => rfl
    | cons y r ih =>
      obtain ⟨c, _, h1⟩ := hy y (List.mem_cons_self ..)
      have h2 := ih fun z hz => hy z (List.mem_cons_of_mem _ hz)
      simp only [List.map_cons, List.flatten_cons, List.length_append, List.length_cons, h2]
      have h3 : (TL.tl y).length = 1 := by
        rw [h1]
        rfl
      omega
  · rw [e] at hc
    obtain ⟨l, hl, hcl⟩ := List.mem_flatten.mp hc
    obtain ⟨y, hm, rfl⟩ := List.mem_map.mp hl
    obtain ⟨d, hd, rfl⟩ := hy y hm
    have : c = d := by simpa [TL.tl] using hcl
    rw [this]
    exact hd
theorem name_sm {x : Str} (h : nameV (.str x) = true) : Sm 8 x := by
  have h1 : ((decide (1 ≤ x.length) && decide (x.length ≤ 8)) && x.cps.toList.all inAz) = true := h
  simp only [Bool.and_eq_true, decide_eq_true_eq, List.all_eq_true] at h1
  refine ⟨h1.1.2, fun c hc => ?_⟩
  have h2 := of_decide_eq_true (h1.2 c hc)
  have : ∀ z ∈ az, z < 128 := by decide +kernel
  exact this c h2
theorem pop_nat {xs : List D} {i : Nat} {y : D} (hl : xs.length ≤ 100000) (h : xs[i]? = some y) : stPop xs [.int i] = some (y, xs.eraseIdx i) := by
  have hi := (List.getElem?_eq_some_iff.mp h).1
  simp only [stPop]
  rw [if_pos ⟨by omega, by omega⟩, seqIx (by omega) (by omega)]
  simp [h]
theorem app_nat {xs : List D} {y : D} (hl : xs.length < 100000) : stApp xs [y] = some (.non, xs ++ [y]) := by
  simp only [stApp]
  rw [if_pos (lt_line hl)]
theorem ext_nat {xs ys : List D} (hl : xs.length + ys.length ≤ 100000) : stExt xs [.lst ys] = some (.non, xs ++ ys) := by
  simp only [stExt]
  rw [if_pos (le_line hl)]
theorem map_perm {α : Type} {f : α → D} {ys : List D} {xs : List α} (h : ys.Perm (xs.map f)) : ∃ zs : List α, ys = zs.map f ∧ zs.Perm xs := by
  induction xs generalizing ys with
  | nil => exact ⟨[], List.Perm.eq_nil h, .refl _⟩
  | cons x xs ih =>
    have hm : f x ∈ ys := h.mem_iff.mpr (by simp)
    obtain ⟨a, b, rfl⟩ := List.append_of_mem hm
    have h2 : (a ++ b).Perm (xs.map f) := by
      have : (f x :: (a ++ b)).Perm (f x :: xs.map f) := (List.perm_middle.symm).trans h
      exact this.cons_inv
    obtain ⟨zs, e, p⟩ := ih h2
    have la : a = (zs.take a.length).map f := by
      rw [List.map_take, ← e]; simp
    have lb : b = (zs.drop a.length).map f := by
      rw [List.map_drop, ← e]; simp
    refine ⟨zs.take a.length ++ x :: zs.drop a.length, ?_, ?_⟩
    · rw [List.map_append, List.map_cons, ← la, ← lb]
    · exact List.perm_middle.trans ((by rw [List.take_append_drop]; exact p : (zs.take a.length ++ zs.drop a.length).Perm xs).cons x)
theorem cut_takeD {xs : List D} {k : Nat} : cutD xs none (some (k : Int)) = xs.take k := by
  unfold cutD
  rw [HT.sIx_none, HT.sIx_nat, Nat.sub_zero, List.drop_zero]
  by_cases h : k ≤ xs.length
  · rw [Nat.min_eq_left h]
  · rw [Nat.min_eq_right (by omega), List.take_length, List.take_of_length_le (by omega)]
theorem cut_dropD {xs : List D} {k : Nat} : cutD xs (some (k : Int)) none = xs.drop k := by
  unfold cutD
  rw [HT.sIx_none, HT.sIx_nat]
  by_cases h : k ≤ xs.length
  · rw [Nat.min_eq_left h, List.take_of_length_le (by rw [List.length_drop]; omega)]
  · rw [Nat.min_eq_right (by omega), List.drop_length, List.take_nil, List.drop_of_length_le (by omega)]
theorem letters_eq : lettersD "abcdefghijklmnopqrstuvwxyz" = letters.map D.str := by
  unfold lettersD letters az
  rw [List.map_map]
  rfl
theorem flV_map (xs : List Str) : flVs (xs.map D.str) = some (xs.map V.str) := by
  induction xs with
  | nil => rfl
  | cons x xs ih => rw [List.map_cons, List.map_cons]; unfold flVs; rw [ih]; rfl
theorem in_strs (x : Str) (xs : List Str) : opIn (.str x) (.lst (xs.map D.str)) = some (.bl (decide (x ∈ xs))) := by
  unfold opIn inD
  simp only [seqD, flV, flV_map, Option.map_some, inV_strs]
theorem notIn_strs (x : Str) (xs : List Str) : opNotIn (.str x) (.lst (xs.map D.str)) = some (.bl (!decide (x ∈ xs))) := by
  unfold opNotIn inD
  simp only [seqD, flV, flV_map, Option.map_some, inV_strs]
theorem in_strsT (x : Str) (xs : List Str) : opIn (.str x) (.tup (xs.map D.str)) = some (.bl (decide (x ∈ xs))) := by
  unfold opIn inD
  simp only [seqD, flV, flV_map, Option.map_some, inV_strs]
theorem notIn_strsT (x : Str) (xs : List Str) : opNotIn (.str x) (.tup (xs.map D.str)) = some (.bl (!decide (x ∈ xs))) := by
  unfold opNotIn inD
  simp only [seqD, flV, flV_map, Option.map_some, inV_strs]
theorem eq_str (x y : Str) : opEq (.str x) (.str y) = some (.bl (decide (x = y))) := by
  unfold opEq eqA eqS
  simp only [flV]
  have : scal (.str x) (.str y) = true := rfl
  simp [this]
theorem ne_str (x y : Str) : opNe (.str x) (.str y) = some (.bl (!decide (x = y))) := by
  unfold opNe eqA eqS
  simp only [flV]
  have : scal (.str x) (.str y) = true := rfl
  simp [this]
theorem strsD_map (xs : List Str) : strsD (xs.map D.str) = some xs := by
  induction xs with
  | nil => rfl
  | cons x xs ih => rw [List.map_cons]; unfold strsD; rw [ih]; rfl
theorem blsD_map {α : Type} (f : α → Bool) (xs : List α) : blsD (xs.map fun x => D.bl (f x)) = some (xs.map f) := by
  induction xs with
  | nil => rfl
  | cons x xs ih => rw [List.map_cons]; unfold blsD; rw [ih]; rfl
theorem all_map {α : Type} (f : α → Bool) (xs : List α) : allD (fun bs => bs.all id) (.lst (xs.map fun x => D.bl (f x))) = some (.bl (xs.all f)) := by
  simp only [allD, blsD_map, Option.map_some, List.all_map]
  rfl
theorem any_map {α : Type} (f : α → Bool) (xs : List α) : allD (fun bs => bs.any id) (.lst (xs.map fun x => D.bl (f x))) = some (.bl (xs.any f)) := by
  simp only [allD, blsD_map, Option.map_some, List.any_map]
  rfl
end Pu
namespace Fk
open PySem PySem.Spec PyProof.Rows L2 Kv Pu
local macro_rules | `(tactic| walk_at "w") => `(tactic| (repeat' (first | with_reducible refine w_prt ?_ | with_reducible refine w_bnd ?_ | with_reducible refine w_fz ?_ | with_reducible refine w_vl ?_ | with_reducible refine w_op1 ?_ | with_reducible refine w_opR ?_ | with_reducible refine w_opL ?_ | with_reducible refine w_opV ?_ | with_reducible refine w_op2 ?_ | with_reducible refine w_tst ?_ | with_reducible refine w_andV ?_ | with_reducible refine w_orV ?_ | with_reducible refine w_notV ?_ | with_reducible refine w_andB ?_ | with_reducible refine w_orB ?_ | with_reducible refine w_notB ?_ | with_reducible refine w_ifV ?_ | with_reducible refine w_consA ?_ | with_reducible refine w_mkT ?_ | with_reducible refine w_mkL ?_ | with_reducible refine w_ix ?_ | with_reducible refine w_chn ?_ | with_reducible refine w_seqP ?_ | with_reducible refine w_sOpt ?_ | with_reducible refine w_slc ?_ | with_reducible refine w_mts ?_ | with_reducible refine w_mtt ?_ | with_reducible refine w_cal ?_ | with_reducible refine w_met ?_ | with_reducible refine w_met0 ?_ | with_reducible refine w_metS ?_ | with_reducible refine s_sk ?_ | with_reducible refine s_sq ?_ | with_reducible refine s_iff ?_ | with_reducible refine s_ret ?_ | with_reducible refine s_retN ?_ | with_reducible refine s_brk ?_ | with_reducible refine s_cnt ?_ | with_reducible refine s_expr ?_ | with_reducible refine s_set ?_ | with_reducible refine s_unp ?_ | with_reducible refine s_par ?_ | with_reducible refine s_asg ?_ | with_reducible refine s_gName ?_ | with_reducible refine s_asgs0 ?_ | with_reducible refine s_asgs1 ?_ | with_reducible refine s_raise ?_ | with_reducible refine s_for ?_ | with_reducible refine s_gSub ?_ | with_reducible refine s_gPut ?_ | with_reducible refine s_sb ?_ | with_reducible refine w_pow18 ?_ | with_reducible refine w_add ?_ | with_reducible refine w_sub ?_ | with_reducible refine w_lt ?_ | with_reducible refine w_le ?_ | with_reducible refine w_gt ?_ | with_reducible refine w_ge ?_ | with_reducible refine w_max ?_ | with_reducible refine w_min ?_ | with_reducible refine w_abs ?_ | with_reducible refine w_asB ?_ | with_reducible refine w_asI ?_ | with_reducible refine w_lenL ?_ | with_reducible refine w_lenT ?_ | with_reducible refine w_lenF ?_ | with_reducible refine w_lenD ?_ | with_reducible refine w_seqL ?_ | with_reducible refine w_seqT ?_ | with_reducible refine w_seqF ?_ | with_reducible refine w_strP ?_ | with_reducible refine w_tupL ?_ | with_reducible refine w_tupT ?_ | with_reducible refine w_keys ?_ | with_reducible refine w_cutL ?_ | with_reducible refine w_revL ?_ | with_reducible refine w_listL ?_ | with_reducible refine w_isN ?_ | with_reducible refine w_isNotN ?_ | with_reducible refine pIteT ?_ | with_reducible refine pIteF ?_ | with_reducible refine exOwn ?_ | with_reducible refine w_eqI ?_ | with_reducible refine w_eqS ?_ | with_reducible refine w_neS ?_ | with_reducible refine w_ixL0 ?_ | ((with_reducible apply w_rdV); exact rfl) | ((with_reducible apply w_rdO); exact rfl) | ((with_reducible apply w_pkV); exact rfl) | ((with_reducible apply w_pkO); exact rfl) | ((with_reducible apply w_mvV); exact rfl) | ((with_reducible apply w_mvO); exact rfl) | ((with_reducible apply w_ownL); exact rfl) | ((with_reducible apply w_calB); exact rfl) | ((with_reducible apply s_gdO); exact rfl) | ((with_reducible apply w_ixLw); exact rfl) | ((with_reducible apply w_ixTw); exact rfl) | ((with_reducible refine And.intro (small_le ?_) ?_); exact rfl) | ((with_reducible refine And.intro ?_ ?_); exact rfl) | ((with_reducible apply s_gTup); exact rfl; exact rfl) | ((with_reducible apply w_appB); exact rfl; exact rfl) | ((with_reducible apply s_stIx); exact rfl; exact rfl) | ((with_reducible apply w_mod); decide) | ((with_reducible apply w_fdiv); decide) | ((with_reducible apply w_mul); first | exact .inl ⟨by omega, by omega⟩ | exact .inr ⟨by omega, by omega⟩) | ((with_reducible apply Exists.intro); (with_reducible apply And.intro); exact rfl))))
abbrev potD (r g : Int) : D := .lst [.int r, .int g]
def PotOk (r g : Int) : Prop := 0 ≤ r ∧ 0 ≤ g ∧ g < 2147483647
/-- a name as it is drawn -/
def Nm (x : Str) : Prop := nameV (.str x) = true ∧ (x.length = 1 ∨ x.length = 2 ∨ x.length = 8)
/-- some pot -/
def Pot (d : D) : Prop := ∃ r g, d = potD r g ∧ PotOk r g
section
variable {z : Zf} {E : QE} {Q : R → En → Prop}
theorem s_draw {p : D} {m : Int} (hp : Pot p) (h0 : 0 < m) (h1 : m ≤ 1000000000000) (k : ∀ x p2, 0 ≤ x → x < m → Pot p2 → Q (.val (.int x)) [.own p2, .un]) :
    W (F__law_draw z) [.own p, .val (.int m)] Q E := by
  obtain ⟨r, g, rfl, p1, p2, p3⟩ := hp
  unfold F__law_draw
  refine w_fn (by rfl) ?_
  walk_at "w"
  refine s_ifB (fun c => ?_) (fun c => ?_)
  · have hr : 0 < r := of_decide_eq_true c
    walk_at "w"
    refine w_dvm ⟨h0, h1⟩ ?_
    walk_at "w"
    exact k _ _ (Int.emod_nonneg _ (by omega)) (Int.emod_lt_of_pos _ h0) ⟨_, _, rfl, Int.ediv_nonneg p1 (by omega), p2, p3⟩
  · walk_at "w"
    have b0 : 0 ≤ (g * 39373 + 12227) % 2147483629 := Int.emod_nonneg _ (by decide)
    have b1 : (g * 39373 + 12227) % 2147483629 < 2147483629 := Int.emod_lt_of_pos _ (by decide)
    generalize (g * 39373 + 12227) % 2147483629 = g2 at b0 b1
    walk_at "w"
    refine w_mod h0 ?_
    walk_at "w"
    exact k _ _ (Int.emod_nonneg _ (by omega)) (Int.emod_lt_of_pos _ h0) ⟨_, _, rfl, p1, b0, by omega⟩
/-- a draw below n: a natural number -/
theorem s_drawN {p : D} {n : Nat} (hp : Pot p) (h0 : 0 < n) (h1 : n ≤ 1000000000) (k : ∀ (x : Nat) p2, x < n → Pot p2 → Q (.val (.int x)) [.own p2, .un]) :
    W (F__law_draw z) [.own p, .val (.int n)] Q E := by
  refine s_draw hp (by omega) (by omega) fun x p2 a b c => ?_
  have e : x = (x.toNat : Nat) := (Int.toNat_of_nonneg a).symm
  rw [e]
  exact k _ _ (by omega) c
theorem s_pot {ns : List Int} {j : Nat} (hj : j ≤ 1000) (k : ∀ p, Pot p → Q (.own p) [.un, .un]) : W (F__law_pot z) [.val (.flst (ns.map D.int)), .val (.int j)] Q E := by
  unfold F__law_pot
  refine w_fn (by rfl) ?_
  have fin : ∀ c : Int, Pot (.lst [.int (if (if c < 0 then -c else c) - 1000000000000000000 > 0 then (if c < 0 then -c else c) - 1000000000000000000 else 0), .int (((if c < 0 then -c else c) % 2147483587 * 48271 + 60013 * (j : Int) + 29) % 2147483647)]) := fun c =>
    ⟨_, _, rfl, by split <;> omega, Int.emod_nonneg _ (by decide), Int.emod_lt_of_pos _ (by decide)⟩
  have key : ∀ c : Int, 0 ≤ (if c < 0 then -c else c) % 2147483587 ∧ (if c < 0 then -c else c) % 2147483587 < 2147483587 := fun c => ⟨Int.emod_nonneg _ (by decide), Int.emod_lt_of_pos _ (by decide)⟩
  walk_at "w"
  refine w_ifB (fun c => ?_) (fun c => ?_)
  · have hl : j < ns.length := by have := of_decide_eq_true c; rw [List.length_map] at this; omega
    walk_at "w"
    refine w_ixF (d := .int ns[j]) (by rw [List.getElem?_map, List.getElem?_eq_getElem hl]; rfl) ?_
    have k1 := key ns[j]
    walk_at "w"
    exact k _ (fin _)
  · have k1 := key 0
    walk_at "w"
    exact k _ (fin 0)
theorem s_mixed {p : D} {xs : List D} (hp : Pot p) (hl : xs.length ≤ 1000) (k : ∀ ys p2, ys.Perm xs → Pot p2 → Q (.own (.lst ys)) [.own p2, .un]) : W (F__law_mixed z) [.own p, .val (.lst xs)] Q E := by
  unfold F__law_mixed
  refine w_fn (by rfl) ?_
  walk_at "w"
  refine w_lc ?_
  walk_at "w"
  refine w_rng (by omega) ?_
  refine lc_list _ (List.range xs.length) (by rw [List.length_range]; omega) (fun dn acc ρ => ∃ p left, Pot p ∧ left.length + dn.length = xs.length ∧ (acc ++ left).Perm xs ∧ ρ = [.own p, .val (.lst xs), .own (.lst left), .un])
    ⟨p, xs, hp, by simp, by simp, rfl⟩ (fun dn x td acc ρ e h => ?_) fun acc ρ h => ?_
  · obtain ⟨p1, left, hp1, h1, h2, rfl⟩ := h
    have h3 := congrArg List.length e
    rw [List.length_range, List.length_append, List.length_cons] at h3
    refine ⟨_, rfl, ?_⟩
    walk_at "w"
    refine s_drawN hp1 (by omega) (by omega) fun x p2 hx hp2 => ?_
    walk_at "w"
    refine w_mutL (by rfl) (pop_nat (by omega) (List.getElem?_eq_getElem hx)) ?_
    refine ⟨p2, _, hp2, ?_, ?_, rfl⟩
    · have := len_erase (List.getElem?_eq_getElem hx)
      rw [List.length_append]
      show _ + (_ + 1) = _
      omega
    · show (acc ++ [left[x]] ++ left.eraseIdx x).Perm xs
      rw [List.append_assoc]
      exact ((perm_erase left x _ (List.getElem?_eq_getElem hx)).append_left acc).trans h2
  · obtain ⟨p1, left, hp1, h1, h2, rfl⟩ := h
    rw [List.length_range] at h1
    have : left = [] := List.eq_nil_of_length_eq_zero (by omega)
    subst this
    rw [List.append_nil] at h2
    exact k _ _ h2 hp1
theorem s_name {p : D} (hp : Pot p) (k : ∀ x p2, Nm x → Pot p2 → Q (.val (.str x)) [.own p2]) : W (F__law_name z) [.own p] Q E := by
  unfold F__law_name
  refine w_fn (by rfl) ?_
  walk_at "w"
  refine w_lc ?_
  walk_at "w"
  refine s_drawN (n := 3) hp (by omega) (by omega) fun x p2 hx hp2 => ?_
  walk_at "w"
  obtain ⟨n, hn, e⟩ : ∃ n : Nat, (n = 1 ∨ n = 2 ∨ n = 8) ∧ ([.int 1, .int 2, .int 8] : List D)[x]? = some (.int n) := by
    match x, hx with
    | 0, _ => exact ⟨1, by omega, rfl⟩
    | 1, _ => exact ⟨2, by omega, rfl⟩
    | 2, _ => exact ⟨8, by omega, rfl⟩
  refine w_ixL e ?_
  refine w_rng (by omega) ?_
  refine lc_list _ (List.range n) (by rw [List.length_range]; omega) (fun dn acc ρ => ∃ p ys, Pot p ∧ acc = ys.map D.str ∧ ys.length = dn.length ∧ (∀ y ∈ ys, ∃ c, c ∈ az ∧ y = (⟨#[c]⟩ : Str)) ∧ ρ = [.own p, .val (.str "abcdefghijklmnopqrstuvwxyz"), .un])
    ⟨p2, [], hp2, rfl, rfl, fun y h => (nomatch h), rfl⟩ (fun dn x td acc ρ e h => ?_) fun acc ρ h => ?_
  · obtain ⟨p1, ys, hp1, rfl, h2, h3, rfl⟩ := h
    refine ⟨_, rfl, ?_⟩
    walk_at "w"
    refine s_drawN (n := 26) hp1 (by omega) (by omega) fun x p2 hx hp2 => ?_
    walk_at "w"
    have la : az.length = 26 := by decide +kernel
    have e2 : ixD (.str "abcdefghijklmnopqrstuvwxyz") (.int x) = some (.str ⟨#[az[x]]⟩) := by
      simp only [ixD]
      rw [if_pos (by decide +kernel)]
      have : L2.atI ("abcdefghijklmnopqrstuvwxyz" : Str).cps.toList (x : Int) = some az[x] := L2.atI_nat (List.getElem?_eq_getElem _)
      rw [this]; rfl
    refine w_lft e2 ?_
    refine ⟨p2, ys ++ [⟨#[az[x]]⟩], hp2, by rw [List.map_append]; rfl, by simp [h2], fun y hy => ?_, rfl⟩
    rcases List.mem_append.mp hy with hy | hy
    · exact h3 y hy
    · exact ⟨az[x], List.getElem_mem _, List.mem_singleton.mp hy⟩
  · obtain ⟨p1, ys, hp1, rfl, h2, h3, rfl⟩ := h
    rw [List.length_range] at h2
    obtain ⟨j1, j2⟩ := join_az ys h3
    walk_at "w"
    have e3 : joinD "" [.lst (ys.map D.str)] = some (.str (Txt.join "" ys)) := by
      simp only [joinD, seqD, strsD_map]
      have s1 : (ys.map (·.length)).sum = ys.length := by
        clear h2 j1 j2
        induction ys with
        | nil => rfl
        | cons y r ih =>
          obtain ⟨c, _, h1⟩ := h3 y (List.mem_cons_self ..)
          rw [List.map_cons, List.sum_cons, ih fun z hz => h3 z (List.mem_cons_of_mem _ hz), List.length_cons, h1]
          show 1 + _ = _
          omega
      have s2 : ("" : Str).length = 0 := rfl
      rw [if_pos (by rw [s1, s2]; omega)]
    refine w_lft e3 ?_
    refine k _ _ ⟨?_, by rw [j1, h2]; exact hn⟩ hp1
    show ((decide (1 ≤ (Txt.join "" ys).length) && decide ((Txt.join "" ys).length ≤ 8)) && (Txt.join "" ys).cps.toList.all inAz) = true
    rw [j1, decide_eq_true (by omega), decide_eq_true (by omega), Bool.true_and, Bool.true_and, List.all_eq_true]
    exact fun c hc => decide_eq_true (j2 c hc)
theorem letter_nm (y : Str) (h : y ∈ letters) : Nm y := by
  refine ⟨letter_name y h, .inl ?_⟩
  obtain ⟨c, _, rfl⟩ := List.mem_map.mp h
  rfl
theorem s_names {p : D} {m : Nat} (hp : Pot p) (hm : m ≤ 25) (k : ∀ (xs : List Str) p2, xs.length = m → xs.Nodup → (∀ x ∈ xs, Nm x) → Pot p2 → Q (.own (.lst (xs.map D.str))) [.own p2, .un]) : W (F__law_names z) [.own p, .val (.int m)] Q E := by
  unfold F__law_names
  refine w_fn (by rfl) ?_
  walk_at "w"
  refine w_rng (by omega) ?_
  refine fr_list _ (List.range m) (fun dn ρ => ∃ p xs s3 s4 s5, Pot p ∧ xs.length = dn.length ∧ xs.Nodup ∧ (∀ x ∈ xs, Nm x) ∧ ρ = [.own p, .val (.int m), .own (.lst (xs.map D.str)), s3, s4, s5, .un])
    ⟨p, [], _, _, _, hp, rfl, List.nodup_nil, fun x h => (nomatch h), rfl⟩ (fun dn x td ρ e h => ?_) fun ρ h => ?_
  · obtain ⟨p1, xs, s3, s4, s5, hp1, h1, h2, h3, rfl⟩ := h
    have hl := congrArg List.length e
    rw [List.length_range, List.length_append, List.length_cons] at hl
    refine ⟨_, rfl, ?_⟩
    walk_at "w"
    refine s_name hp1 fun x p2 hx hp2 => ?_
    walk_at "w"
    refine w_lc ?_
    walk_at "w"
    rw [letters_eq]
    refine lc_filter D.str (fun y => decide (y ∉ xs)) D.str letters (by rw [letters_len]; omega) (fun y hy => ⟨_, rfl, ?_⟩) ?_
    · walk_at "w"
      refine w_lft (notIn_strs y xs) ?_
      walk_at "w"
      by_cases c : y ∈ xs
      · refine pIteB (fun h => absurd h (by simp [c])) fun _ => ?_
        exact ⟨by simp [c], rfl⟩
      · refine pIteB (fun h => ?_) fun h => absurd h (by simp [c])
        walk_at "w"
        exact ⟨by simp [c], rfl⟩
    · walk_at "w"
      have fl := filter_left xs letters_nodup
      rw [letters_len] at fl
      refine w_lft (in_strs x xs) ?_
      walk_at "w"
      refine w_ifB (fun c => ?_) (fun c => ?_)
      · walk_at "w"
        obtain ⟨y, r, ey⟩ : ∃ y r, letters.filter (fun y => decide (y ∉ xs)) = y :: r := by
          cases h : letters.filter (fun y => decide (y ∉ xs)) with
          | nil => rw [h, List.length_nil] at fl; omega
          | cons y r => exact ⟨y, r, rfl⟩
        have hy : y ∈ letters ∧ y ∉ xs := by
          have : y ∈ letters.filter (fun y => decide (y ∉ xs)) := by rw [ey]; exact List.mem_cons_self ..
          obtain ⟨a, b⟩ := List.mem_filter.mp this
          exact ⟨a, of_decide_eq_true b⟩
        rw [ey]
        refine w_ixL0 ?_
        walk_at "w"
        refine w_mutL (by rfl) (app_nat (by rw [List.length_map]; omega)) ?_
        refine ⟨p2, xs ++ [y], _, _, _, hp2, by simp [h1], ?_, fun u hu => ?_, by rw [List.map_append]; rfl⟩
        · exact List.nodup_append.mpr ⟨h2, by simp, fun a ha b hb => by rw [List.mem_singleton.mp hb]; exact fun z => hy.2 (z ▸ ha)⟩
        · rcases List.mem_append.mp hu with hu | hu
          · exact h3 u hu
          · rw [List.mem_singleton.mp hu]; exact letter_nm y hy.1
      · walk_at "w"
        refine w_mutL (by rfl) (app_nat (by rw [List.length_map]; omega)) ?_
        have hx2 : x ∉ xs := of_decide_eq_false c
        refine ⟨p2, xs ++ [x], _, _, _, hp2, by simp [h1], ?_, fun u hu => ?_, by rw [List.map_append]; rfl⟩
        · exact List.nodup_append.mpr ⟨h2, by simp, fun a ha b hb => by rw [List.mem_singleton.mp hb]; exact fun z => hx2 (z ▸ ha)⟩
        · rcases List.mem_append.mp hu with hu | hu
          · exact h3 u hu
          · rw [List.mem_singleton.mp hu]; exact hx
  · obtain ⟨p1, xs, s3, s4, s5, hp1, h1, h2, h3, rfl⟩ := h
    walk_at "w"
    exact k xs p1 (by rw [h1, List.length_range]) h2 h3 hp1
theorem rows_fst (rows : List Row2) : (rows.map rowD).length = rows.length := List.length_map ..
theorem s_kinds {p : D} {m : Nat} (hp : Pot p) (h0 : 0 < m) (hm : m ≤ 25) (k : ∀ (rows : List Row2) p2, Valid rows → 0 < rows.length → rows.length ≤ m → (∀ r ∈ rows, r.2.length ≤ 3 ∧ Nm r.1) → Pot p2 → Q (.own (.lst (rows.map rowD))) [.own p2, .un]) : W (F__law_kinds z) [.own p, .val (.int m)] Q E := by
  unfold F__law_kinds
  refine w_fn (by rfl) ?_
  walk_at "w"
  refine s_drawN hp h0 (by omega) fun x p2 hx hp2 => ?_
  walk_at "w"
  have e1 : (1 + (x : Int)) = ((1 + x : Nat) : Int) := by omega
  rw [e1]
  walk_at "w"
  refine s_names hp2 (by omega) fun xs p3 hl hn hv hp3 => ?_
  walk_at "w"
  refine fr_list D.str xs (fun dn ρ => ∃ p rows s3 s4, Pot p ∧ fsts rows = dn ∧ Valid rows ∧ (∀ r ∈ rows, r.2.length ≤ 3 ∧ Nm r.1) ∧ ρ = [.own p, .val (.int m), .own (.lst (rows.map rowD)), s3, s4, .un])
    ⟨p3, [], _, _, hp3, rfl, valid_nil, fun x h => (nomatch h), rfl⟩ (fun dn x td ρ e0 h => ?_) fun ρ h => ?_
  · obtain ⟨p4, rows, s3, s4, hp4, h1, h2, h3, rfl⟩ := h
    refine ⟨_, rfl, ?_⟩
    walk_at "w"
    refine s_drawN (n := 6) hp4 (by omega) (by omega) fun y p5 hy hp5 => ?_
    walk_at "w"
    obtain ⟨n, hn3, e⟩ : ∃ n : Nat, n ≤ 3 ∧ ([.int 0, .int 1, .int 1, .int 2, .int 2, .int 3] : List D)[y]? = some (.int n) := by
      match y, hy with
      | 0, _ => exact ⟨0, by omega, rfl⟩
      | 1, _ => exact ⟨1, by omega, rfl⟩
      | 2, _ => exact ⟨1, by omega, rfl⟩
      | 3, _ => exact ⟨2, by omega, rfl⟩
      | 4, _ => exact ⟨2, by omega, rfl⟩
      | 5, _ => exact ⟨3, by omega, rfl⟩
    refine w_ixL e ?_
    walk_at "w"
    refine w_lc ?_
    walk_at "w"
    refine lc_map rowD (fun r => .str r.1) rows (by rw [← h1] at e0; have := congrArg List.length e0; unfold fsts at this; simp at this; omega) (fun r hr => ⟨_, rfl, ?_⟩) ?_
    · walk_at "w"
      refine w_lft (a := .str r.1) (by rfl) ?_
      exact ⟨rfl, rfl⟩
    · walk_at "w"
      have hle : rows.length < xs.length := by rw [← h1] at e0; have := congrArg List.length e0; unfold fsts at this; simp at this; omega
      refine s_mixed hp5 (by rw [List.length_map]; omega) fun ys p6 pm hp6 => ?_
      have e5 : (rows.map fun r => D.str r.1) = (fsts rows).map D.str := by unfold fsts; rw [List.map_map]; rfl
      rw [e5] at pm
      obtain ⟨zs, rfl, pm2⟩ := map_perm pm
      walk_at "w"
      rw [cut_takeD, ← List.map_take]
      refine w_mutL (by rfl) (app_nat (by rw [List.length_map]; omega)) ?_
      have hx : x ∉ fsts rows := by
        rw [h1]
        rw [e0] at hn
        have := List.nodup_append.mp hn
        exact fun hz => this.2.2 x hz x (List.mem_cons_self ..) rfl
      have hnd : (fsts rows).Nodup := by
        rw [h1]
        rw [e0] at hn
        exact (List.nodup_append.mp hn).1
      refine ⟨p6, rows ++ [(x, zs.take n)], _, _, hp6, by rw [fsts_snoc, h1], h2.snoc (hv x (by rw [e0]; simp)).1 hx ((pm2.nodup_iff.mpr hnd).sublist (List.take_sublist _ _)) fun s hs => pm2.mem_iff.mp (List.mem_of_mem_take hs), fun r hr => ?_, by rw [List.map_append]; rfl⟩
      rcases List.mem_append.mp hr with hr | hr
      · exact h3 r hr
      · rw [List.mem_singleton.mp hr]
        refine ⟨?_, hv x (by rw [e0]; simp)⟩
        show (zs.take n).length ≤ 3
        rw [List.length_take]
        omega
  · obtain ⟨p4, rows, s3, s4, hp4, h1, h2, h3, rfl⟩ := h
    have hr : rows.length = xs.length := by rw [← h1]; unfold fsts; rw [List.length_map]
    walk_at "w"
    exact k rows p4 h2 (by omega) (by omega) h3 hp4
end
end Fk
/-! What operators and built-ins give on trees that are lists of texts, hierarchies .. -/
namespace Pu
open PySem PySem.Spec PyProof.Rows L2 Kv
/-! ### isinstance -/
def isS : D → Bool
  | .str _ => true
  | _ => false
def isTp : D → Bool
  | .tup _ => true
  | .ftup _ => true
  | _ => false
def isLs : D → Bool
  | .lst _ => true
  | .flst _ => true
  | _ => false
def isIn : D → Bool
  | .int _ => true
  | .bl _ => true
  | _ => false
def isBl : D → Bool
  | .bl _ => true
  | _ => false
theorem isi_of {T : String} {d : D} {b : Bool} {t : String} (h : tyS d = some t) (hk : kitB t T = some b) : isi T d = some (.bl b) := by
  unfold isi; rw [h, Option.bind_some, hk]; rfl
def isDc : D → Bool
  | .dic _ _ => true
  | .dct _ _ => true
  | _ => false
theorem isi_str (d : D) (h : tyS d ≠ none) : isi "str" d = some (.bl (isS d)) := by
  have q0 : kitB "NoneType" "str" = some false := by decide +kernel
  have q1 : kitB "bool" "str" = some false := by decide +kernel
  have q2 : kitB "int" "str" = some false := by decide +kernel
  have q3 : kitB "str" "str" = some true := by decide +kernel
  have q4 : kitB "list" "str" = some false := by decide +kernel
  have q5 : kitB "tuple" "str" = some false := by decide +kernel
  have q6 : kitB "dict" "str" = some false := by decide +kernel
  cases d <;> first | exact absurd rfl h | exact isi_of rfl q0 | exact isi_of rfl q1 | exact isi_of rfl q2 | exact isi_of rfl q3 | exact isi_of rfl q4 | exact isi_of rfl q5 | exact isi_of rfl q6
theorem isi_tuple (d : D) (h : tyS d ≠ none) : isi "tuple" d = some (.bl (isTp d)) := by
  have q0 : kitB "NoneType" "tuple" = some false := by decide +kernel
  have q1 : kitB "bool" "tuple" = some false := by decide +kernel
  have q2 : kitB "int" "tuple" = some false := by decide +kernel
  have q3 : kitB "str" "tuple" = some false := by decide +kernel
  have q4 : kitB "list" "tuple" = some false := by decide +kernel
  have q5 : kitB "tuple" "tuple" = some true := by decide +kernel
  have q6 : kitB "dict" "tuple" = some false := by decide +kernel
  cases d <;> first | exact absurd rfl h | exact isi_of rfl q0 | exact isi_of rfl q1 | exact isi_of rfl q2 | exact isi_of rfl q3 | exact isi_of rfl q4 | exact isi_of rfl q5 | exact isi_of rfl q6
theorem isi_list (d : D) (h : tyS d ≠ none) : isi "list" d = some (.bl (isLs d)) := by
  have q0 : kitB "NoneType" "list" = some false := by decide +kernel
  have q1 : kitB "bool" "list" = some false := by decide +kernel
  have q2 : kitB "int" "list" = some false := by decide +kernel
  have q3 : kitB "str" "list" = some false := by decide +kernel
  have q4 : kitB "list" "list" = some true := by decide +kernel
  have q5 : kitB "tuple" "list" = some false := by decide +kernel
  have q6 : kitB "dict" "list" = some false := by decide +kernel
  cases d <;> first | exact absurd rfl h | exact isi_of rfl q0 | exact isi_of rfl q1 | exact isi_of rfl q2 | exact isi_of rfl q3 | exact isi_of rfl q4 | exact isi_of rfl q5 | exact isi_of rfl q6
theorem isi_int (d : D) (h : tyS d ≠ none) : isi "int" d = some (.bl (isIn d)) := by
  have q0 : kitB "NoneType" "int" = some false := by decide +kernel
  have q1 : kitB "bool" "int" = some true := by decide +kernel
  have q2 : kitB "int" "int" = some true := by decide +kernel
  have q3 : kitB "str" "int" = some false := by decide +kernel
  have q4 : kitB "list" "int" = some false := by decide +kernel
  have q5 : kitB "tuple" "int" = some false := by decide +kernel
  have q6 : kitB "dict" "int" = some false := by decide +kernel
  cases d <;> first | exact absurd rfl h | exact isi_of rfl q0 | exact isi_of rfl q1 | exact isi_of rfl q2 | exact isi_of rfl q3 | exact isi_of rfl q4 | exact isi_of rfl q5 | exact isi_of rfl q6
theorem isi_bool (d : D) (h : tyS d ≠ none) : isi "bool" d = some (.bl (isBl d)) := by
  have q0 : kitB "NoneType" "bool" = some false := by decide +kernel
  have q1 : kitB "bool" "bool" = some true := by decide +kernel
  have q2 : kitB "int" "bool" = some false := by decide +kernel
  have q3 : kitB "str" "bool" = some false := by decide +kernel
  have q4 : kitB "list" "bool" = some false := by decide +kernel
  have q5 : kitB "tuple" "bool" = some false := by decide +kernel
  have q6 : kitB "dict" "bool" = some false := by decide +kernel
  cases d <;> first | exact absurd rfl h | exact isi_of rfl q0 | exact isi_of rfl q1 | exact isi_of rfl q2 | exact isi_of rfl q3 | exact isi_of rfl q4 | exact isi_of rfl q5 | exact isi_of rfl q6
theorem isi_dict (d : D) (h : tyS d ≠ none) : isi "dict" d = some (.bl (isDc d)) := by
  have q0 : kitB "NoneType" "dict" = some false := by decide +kernel
  have q1 : kitB "bool" "dict" = some false := by decide +kernel
  have q2 : kitB "int" "dict" = some false := by decide +kernel
  have q3 : kitB "str" "dict" = some false := by decide +kernel
  have q4 : kitB "list" "dict" = some false := by decide +kernel
  have q5 : kitB "tuple" "dict" = some false := by decide +kernel
  have q6 : kitB "dict" "dict" = some true := by decide +kernel
  cases d <;> first | exact absurd rfl h | exact isi_of rfl q0 | exact isi_of rfl q1 | exact isi_of rfl q2 | exact isi_of rfl q3 | exact isi_of rfl q4 | exact isi_of rfl q5 | exact isi_of rfl q6
/-! ### == and repr -/
theorem toPys_strs (xs : List Str) : toPys (xs.map D.str) = some (xs.map PyData.str) := by
  induction xs with
  | nil => rfl
  | cons x xs ih => rw [List.map_cons, List.map_cons]; unfold toPys; rw [ih]; rfl
theorem toPys_map {α : Type} (f : α → D) (g : α → PyData) (xs : List α) (h : ∀ x ∈ xs, toPy (f x) = some (g x)) : toPys (xs.map f) = some (xs.map g) := by
  induction xs with
  | nil => rfl
  | cons x xs ih => rw [List.map_cons, List.map_cons]; unfold toPys; rw [ih fun y hy => h y (List.mem_cons_of_mem _ hy), h x (List.mem_cons_self ..)]
theorem eqvAll_strs : ∀ (xs ys : List Str), PyData.eqvAll (xs.map PyData.str) (ys.map PyData.str) = decide (xs = ys)
  | [], [] => by simp [PyData.eqvAll]
  | [], y :: ys => by simp [PyData.eqvAll]
  | x :: xs, [] => by simp [PyData.eqvAll]
  | x :: xs, y :: ys => by
    rw [List.map_cons, List.map_cons]
    unfold PyData.eqvAll
    rw [eqvAll_strs xs ys]
    unfold PyData.eqv
    by_cases h : x = y
    · subst h; simp
    · have : (x == y) = false := beq_eq_false_iff_ne.mpr h
      rw [this]; simp [h]
theorem sm_ok {n : Nat} {x : Str} (h : Sm n x) : PyData.strOk x = true := by
  unfold PyData.strOk
  rw [← Array.all_toList, List.all_eq_true]
  exact fun c hc => decide_eq_true (Nat.lt_trans (h.2 c hc) (by decide))
theorem canLay_strs (xs : List Str) (hx : ∀ x ∈ xs, PyData.strOk x = true) : PyData.canLayAll0 (xs.map PyData.str) = true ∧ PyData.depthAll (xs.map PyData.str) = 0 := by
  induction xs with
  | nil => exact ⟨by simp [PyData.canLayAll0], by simp [PyData.depthAll]⟩
  | cons x xs ih =>
    have ih := ih fun y hy => hx y (List.mem_cons_of_mem _ hy)
    have h1 := hx x (List.mem_cons_self ..)
    rw [List.map_cons]
    exact ⟨by simp [PyData.canLayAll0, PyData.canLay0, ih.1, h1], by simp [PyData.depthAll, PyData.depth, ih.2]⟩
theorem shaped_strs (xs : List Str) (hx : ∀ x ∈ xs, PyData.strOk x = true) : SeqAt.shaped (.list (xs.map PyData.str)) = true := by
  obtain ⟨h1, h2⟩ := canLay_strs xs hx
  unfold SeqAt.shaped
  simp [PyData.canLay0, PyData.depth, h1, h2]
theorem shaped_strsT (xs : List Str) (hx : ∀ x ∈ xs, PyData.strOk x = true) : SeqAt.shaped (.tuple (xs.map PyData.str)) = true := by
  obtain ⟨h1, h2⟩ := canLay_strs xs hx
  unfold SeqAt.shaped
  simp [PyData.canLay0, PyData.depth, h1, h2]
theorem eqA_strs (xs ys : List Str) (hx : ∀ x ∈ xs, PyData.strOk x = true) (hy : ∀ x ∈ ys, PyData.strOk x = true) : eqA (.lst (xs.map D.str)) (.lst (ys.map D.str)) = some (decide (xs = ys)) := by
  unfold eqA eqS eqP
  simp only [flV, toPy, toPys_strs, Option.map_some, shaped_strs xs hx, shaped_strs ys hy, Bool.and_self, if_true, Option.orElse]
  show some (PyData.eqv (.list (xs.map PyData.str)) (.list (ys.map PyData.str))) = _
  unfold PyData.eqv
  rw [eqvAll_strs]
theorem eq_strs (xs ys : List Str) (hx : ∀ x ∈ xs, PyData.strOk x = true) (hy : ∀ x ∈ ys, PyData.strOk x = true) : opEq (.lst (xs.map D.str)) (.lst (ys.map D.str)) = some (.bl (decide (xs = ys))) := by
  unfold opEq; rw [eqA_strs xs ys hx hy]; rfl
theorem eqA_strsT (xs ys : List Str) (hx : ∀ x ∈ xs, PyData.strOk x = true) (hy : ∀ x ∈ ys, PyData.strOk x = true) : eqA (.tup (xs.map D.str)) (.tup (ys.map D.str)) = some (decide (xs = ys)) := by
  unfold eqA eqS eqP
  simp only [flV, toPy, toPys_strs, Option.map_some, shaped_strsT xs hx, shaped_strsT ys hy, Bool.and_self, if_true, Option.orElse]
  show some (PyData.eqv (.tuple (xs.map PyData.str)) (.tuple (ys.map PyData.str))) = _
  unfold PyData.eqv
  rw [eqvAll_strs]
/-- what repr gives -/
theorem sh_of {d : D} {p : PyData} {n m : Nat} (h : toPy d = some p) (f : Fit n m p) (hn : n ≤ 60000) (hm : m ≤ 60) : shD d = some (.str p.shown) := by
  have e : shD d = (toPy d).bind showP := by
    unfold shD
    split
    · cases h
    · rfl
  rw [e, h, Option.bind_some]
  unfold showP
  rw [if_pos (f.ok hn hm)]
theorem fitAll_of {α : Type} {n m : Nat} (g : α → PyData) : ∀ xs : List α, (∀ x ∈ xs, Fit n m (g x)) → FitAll ((n + 1) * xs.length) m (xs.map g)
  | [], _ => by rw [List.length_nil, Nat.mul_zero]; exact fitAll_nil
  | x :: xs, h => by
    have := FitAll.cons (h x (List.mem_cons_self ..)) (fitAll_of g xs fun y hy => h y (List.mem_cons_of_mem _ hy))
    rw [List.length_cons, Nat.mul_add, Nat.mul_one, Nat.add_comm]
    exact this
theorem fit_strs {n : Nat} {xs : List Str} (h : ∀ x ∈ xs, Sm n x) : Fit ((n + 1) * xs.length) 1 (.list (xs.map PyData.str)) := Fit.lst (fitAll_of PyData.str xs fun x hx => (h x hx).fit)
theorem sh_strs {n : Nat} {xs : List Str} (h : ∀ x ∈ xs, Sm n x) (hn : (n + 1) * xs.length ≤ 60000) : shD (.lst (xs.map D.str)) = some (.str (PyData.list (xs.map PyData.str)).shown) :=
  sh_of (by simp only [toPy, toPys_strs, Option.map_some]) (fit_strs h) hn (by decide)
theorem eq_int (i j : Int) : opEq (.int i) (.int j) = some (.bl (decide (i = j))) := by
  unfold opEq eqA eqS
  simp only [flV]
  have : scal (.int i) (.int j) = true := rfl
  simp [this]
theorem add_lst {xs ys : List D} (h : xs.length + ys.length ≤ 100000) : opAdd (.lst xs) (.lst ys) = some (.lst (xs ++ ys)) := by
  simp only [opAdd]
  rw [if_pos (le_line h)]
section
variable {ρ : En} {E : QE} {Q : D → En → Prop}
theorem w_eqI {i j : Int} (h : Q (.bl (decide (i = j))) ρ) : W (lft (opEq (.int i) (.int j))) ρ Q E := w_lft (eq_int i j) h
theorem w_eqS {x y : Str} (h : Q (.bl (decide (x = y))) ρ) : W (lft (opEq (.str x) (.str y))) ρ Q E := w_lft (eq_str x y) h
theorem w_neS {x y : Str} (h : Q (.bl (!decide (x = y))) ρ) : W (lft (opNe (.str x) (.str y))) ρ Q E := w_lft (ne_str x y) h
end
section
variable {ρ : En} {N B C : En → Prop} {T : R → En → Prop} {E : QE} {i : Nat}
theorem WS.toNx {f : S} {G : En → Prop} (h : WS f ρ G (fun _ _ => False) (fun _ => False) (fun _ => False) NX) : ∃ ρ', f ρ = some (.nx ρ') ∧ G ρ' := by
  unfold WS at h
  split at h
  · exact h.elim
  · rename_i z; exact ⟨_, z, h⟩
  · exact h.elim
  · exact h.elim
  · exact h.elim
  · exact h.elim
/-- a try whose suite goes on -/
theorem s_tryN {K : PySem.W.Frag} {c : Value} {fb : S} {fh : Addr → Addr → Value → S}
    (h : WS fb ρ N T B C (fun c0 ns ds ρ' => PySem.W.exmOne K c0 c = some true ∧ ∃ ρX, (∀ a dx, WS (fh a dx c0) (ρ'.set i (.val (.exn a dx c0 ns ds))) (fun ρ2 => ρ2.set i .un = ρX) (fun _ _ => False) (fun _ => False) (fun _ => False) NX) ∧ N ρX)) :
    WS (tryS K c i fb fh) ρ N T B C E := by
  have h2 : WS fb ρ N T B C (fun c0 ns ds ρ' => PySem.W.exmOne K c0 c = some true ∧ ∃ ρX, (∀ a dx, ∃ ρ2, fh a dx c0 (ρ'.set i (.val (.exn a dx c0 ns ds))) = some (.nx ρ2) ∧ ρ2.set i .un = ρX) ∧ N ρX) :=
    h.mono (fun _ h => h) (fun _ _ h => h) (fun _ h => h) (fun _ h => h) fun _ _ _ _ ⟨hx, ρX, hf, hn⟩ => ⟨hx, ρX, fun a dx => WS.toNx (hf a dx), hn⟩
  clear h
  unfold WS at h2 ⊢
  split at h2
  · exact h2.elim
  · rename_i z; rw [tryS_ok z (fun _ _ _ _ q => by cases q)]; exact h2
  · rename_i z; rw [tryS_ok z (fun _ _ _ _ q => by cases q)]; exact h2
  · rename_i z; rw [tryS_ok z (fun _ _ _ _ q => by cases q)]; exact h2
  · rename_i z; rw [tryS_ok z (fun _ _ _ _ q => by cases q)]; exact h2
  · rename_i z
    obtain ⟨hx, ρX, hf, hn⟩ := h2
    rw [tryS_caught (fl := .nx ρX) z hx fun a dx => by
      obtain ⟨ρ2, e, q⟩ := hf a dx
      rw [e]
      show some (Fl.nx (ρ2.set i .un)) = _
      rw [q]]
    exact hn
end
/-! ### dicts with texts as keys -/
theorem valD_map (x : Str) (f : Str → D) : ∀ ns : List Str, valD (ns.map (Sum.inr : Str → Key)) (ns.map f) (Sum.inr x : Key) = if x ∈ ns then some (f x) else none
  | [] => rfl
  | a :: ns => by
    rw [List.map_cons, List.map_cons]
    unfold valD
    rw [valD_map x f ns]
    by_cases e : a = x
    · subst e; simp
    · rw [if_neg (keyr_ne e)]
      by_cases m : x ∈ ns
      · simp [m]
      · simp [m, Ne.symm e]
theorem valD_str (x : Str) : ∀ {ns : List Str} {ds : List D}, ns.length = ds.length → (valD (ns.map (Sum.inr : Str → Key)) ds (Sum.inr x : Key)).isSome = decide (x ∈ ns)
  | [], [], _ => rfl
  | a :: ns, d :: ds, h => by
    have ih := valD_str x (ns := ns) (ds := ds) (Nat.succ.inj h)
    show (if (Sum.inr a : Key) = Sum.inr x then some d else valD (ns.map (Sum.inr : Str → Key)) ds (Sum.inr x : Key)).isSome = _
    by_cases e : a = x
    · subst e; simp
    · rw [if_neg (keyr_ne e), ih]
      by_cases m : x ∈ ns
      · simp [m]
      · simp [m, Ne.symm e]
theorem in_dic {x : Str} {ns : List Str} {ds : List D} (h : ns.length = ds.length) : opIn (.str x) (.dic (ns.map Sum.inr) ds) = some (.bl (decide (x ∈ ns))) := by
  simp only [opIn, inD, getD, asKey, Option.map_some, valD_str x h]
/-- dict(pairs), every key once -/
theorem putD_new {ks : List Key} {vs : List D} {k : Key} {v : D} (h : k ∉ ks) : putD ks vs k v = (ks ++ [k], vs ++ [v]) := by
  unfold putD
  have : (ks.any fun a => decide (a = k)) = false := by
    rw [List.any_eq_false]
    intro a ha z
    exact h (of_decide_eq_true z ▸ ha)
  rw [this]; rfl
theorem mergeD_new : ∀ (ps : List (Key × D)) (ks : List Key) (vs : List D), (ks ++ ps.map (·.1)).Nodup → mergeD ks vs ps = (ks ++ ps.map (·.1), vs ++ ps.map (·.2))
  | [], ks, vs, _ => by simp [mergeD]
  | (k, v) :: ps, ks, vs, h => by
    unfold mergeD
    have hk : k ∉ ks := fun z => (List.nodup_append.mp h).2.2 k z k (by simp) rfl
    rw [putD_new hk]
    show mergeD (ks ++ [k]) (vs ++ [v]) ps = _
    rw [mergeD_new ps (ks ++ [k]) (vs ++ [v]) (by rw [List.append_assoc]; exact h)]
    simp
theorem pairsOf_map {α : Type} (f : α → Str) (g : α → D) (xs : List α) : pairsOf (xs.map fun x => .tup [.str (f x), g x]) = some (xs.map fun x => ((Sum.inr (f x) : Key), g x)) := by
  induction xs with
  | nil => rfl
  | cons x xs ih => rw [List.map_cons, List.map_cons]; unfold pairsOf; rw [ih]; rfl
theorem dictP_map {α : Type} (f : α → Str) (g : α → D) (xs : List α) (h : (xs.map f).Nodup) : dictP (.lst (xs.map fun x => .tup [.str (f x), g x])) = some (.own (.dic ((xs.map f).map Sum.inr) (xs.map g))) := by
  unfold dictP
  have e : mergeD [] [] (xs.map fun x => ((Sum.inr (f x) : Key), g x)) = ((xs.map f).map Sum.inr, xs.map g) := by
    rw [mergeD_new]
    · simp [List.map_map, Function.comp_def]
    · simp only [List.nil_append, List.map_map, Function.comp_def]
      have : (xs.map fun x => (Sum.inr (f x) : Key)) = (xs.map f).map Sum.inr := by rw [List.map_map]; rfl
      rw [this]
      exact List.Pairwise.map _ (fun a b hab => fun z => hab (Sum.inr.inj z)) h
  simp only [lstOf, Option.bind_some, pairsOf_map, Option.map_some, e]
/-- max(1, min(len, c)) -/
theorem cells (n : Nat) (c : Int) (h0 : 0 ≤ c) (h1 : c ≤ 100) : ∃ m : Nat, m ≤ 100 ∧ (if (if c < (n : Int) then c else (n : Int)) > 1 then (if c < (n : Int) then c else (n : Int)) else 1) = (m : Int) := by
  refine ⟨(if (if c < (n : Int) then c else (n : Int)) > 1 then (if c < (n : Int) then c else (n : Int)) else 1).toNat, ?_, ?_⟩
  · split <;> split <;> omega
  · split <;> split <;> omega
theorem rowsOf_map (rows : List Row2) : rowsOf (.lst (rows.map rowD)) = some rows := by
  show rowsOf' (rows.map rowD) = some rows
  induction rows with
  | nil => rfl
  | cons r rows ih =>
    rw [List.map_cons]
    have : rowOf (rowD r) = some r := by
      show (strsD (r.2.map D.str)).map (fun xs => (r.1, xs)) = _
      rw [strsD_map]; rfl
    unfold rowsOf'
    rw [ih, this]
/-! ### a hierarchy's parts -/
theorem hier_obj {C : Addr} {rows : List Row2} {m : Str} (h : decide (m ∉ [("rows" : Str), "places", "above"]) = true) : isObj C m (hierD C rows) = true := by
  show (decide (C = C) && decide (m ∉ [("rows" : Str), "places", "above"])) = true
  rw [decide_eq_true rfl, Bool.true_and]
  exact h
theorem fld_rows (C : Addr) (rows : List Row2) : fldD C "rows" (hierD C rows) = some (.lst (rows.map rowD)) := (if_pos rfl).trans rfl
theorem fld_places (C : Addr) (rows : List Row2) : fldD C "places" (hierD C rows) = some (.dic ((fsts rows).map Sum.inr) (idxD rows.length)) := (if_pos rfl).trans rfl
theorem fld_above (C : Addr) (rows : List Row2) : fldD C "above" (hierD C rows) = some (.dic ((ancTab rows).map fun p => Sum.inr p.1) ((ancTab rows).map fun p => flagD p.2)) := (if_pos rfl).trans rfl
theorem idx_len (rows : List Row2) : (fsts rows).length = (idxD rows.length).length := by simp [idxD, fsts]
theorem fsts_len (rows : List Row2) : (fsts rows).length = rows.length := by unfold fsts; rw [List.length_map]
/-- self.above[name] -/
theorem above_at {rows : List Row2} {x : Str} (h : x ∈ fsts rows) : ixD (.dic ((ancTab rows).map fun p => Sum.inr p.1) ((ancTab rows).map fun p => flagD p.2)) (.str x) = some (flagD (Anc rows x)) := by
  have key : ∀ tab : Tab, x ∈ tabKeys tab → valD (tab.map fun p => (Sum.inr p.1 : Key)) (tab.map fun p => flagD p.2) (Sum.inr x : Key) = some (flagD (look tab x)) := by
    intro tab
    induction tab with
    | nil => intro h; cases h
    | cons p r ih =>
      intro h
      obtain ⟨y, as⟩ := p
      rw [List.map_cons, List.map_cons]
      unfold valD look
      rw [List.lookup_cons]
      by_cases e : y = x
      · subst e
        rw [if_pos rfl, beq_self_eq_true]; rfl
      · rw [if_neg (keyr_ne e), beq_eq_false_iff_ne.mpr (Ne.symm e)]
        rcases List.mem_cons.mp h with z | z
        · exact absurd z.symm e
        · exact ih z
  have h2 : x ∈ tabKeys (ancTab rows) := by rw [ancTab_keys]; exact h
  simp only [ixD, getD, asKey, Option.map_some, key _ h2, Option.bind_some]
  rfl
theorem in_flag (x : Str) (as : List Str) : opIn (.str x) (flagD as) = some (.bl (decide (x ∈ as))) := in_dic (by simp)
/-- is it one of the classes -/
def hasN (ns : List Str) : D → Bool
  | .str x => decide (x ∈ ns)
  | _ => false
end Pu
namespace Fk
open PySem PySem.Spec PyProof.Rows L2 Kv Pu
local macro_rules | `(tactic| walk_at "w") => `(tactic| (repeat' (first | with_reducible refine w_prt ?_ | with_reducible refine w_bnd ?_ | with_reducible refine w_fz ?_ | with_reducible refine w_vl ?_ | with_reducible refine w_op1 ?_ | with_reducible refine w_opR ?_ | with_reducible refine w_opL ?_ | with_reducible refine w_opV ?_ | with_reducible refine w_op2 ?_ | with_reducible refine w_tst ?_ | with_reducible refine w_andV ?_ | with_reducible refine w_orV ?_ | with_reducible refine w_notV ?_ | with_reducible refine w_andB ?_ | with_reducible refine w_orB ?_ | with_reducible refine w_notB ?_ | with_reducible refine w_ifV ?_ | with_reducible refine w_consA ?_ | with_reducible refine w_mkT ?_ | with_reducible refine w_mkL ?_ | with_reducible refine w_ix ?_ | with_reducible refine w_chn ?_ | with_reducible refine w_seqP ?_ | with_reducible refine w_sOpt ?_ | with_reducible refine w_slc ?_ | with_reducible refine w_mts ?_ | with_reducible refine w_mtt ?_ | with_reducible refine w_cal ?_ | with_reducible refine w_met ?_ | with_reducible refine w_met0 ?_ | with_reducible refine w_metS ?_ | with_reducible refine s_sk ?_ | with_reducible refine s_sq ?_ | with_reducible refine s_iff ?_ | with_reducible refine s_ret ?_ | with_reducible refine s_retN ?_ | with_reducible refine s_brk ?_ | with_reducible refine s_cnt ?_ | with_reducible refine s_expr ?_ | with_reducible refine s_set ?_ | with_reducible refine s_unp ?_ | with_reducible refine s_par ?_ | with_reducible refine s_asg ?_ | with_reducible refine s_gName ?_ | with_reducible refine s_asgs0 ?_ | with_reducible refine s_asgs1 ?_ | with_reducible refine s_raise ?_ | with_reducible refine s_for ?_ | with_reducible refine s_gSub ?_ | with_reducible refine s_gPut ?_ | with_reducible refine s_sb ?_ | with_reducible refine w_pow18 ?_ | with_reducible refine w_add ?_ | with_reducible refine w_sub ?_ | with_reducible refine w_lt ?_ | with_reducible refine w_le ?_ | with_reducible refine w_gt ?_ | with_reducible refine w_ge ?_ | with_reducible refine w_max ?_ | with_reducible refine w_min ?_ | with_reducible refine w_abs ?_ | with_reducible refine w_asB ?_ | with_reducible refine w_asI ?_ | with_reducible refine w_lenL ?_ | with_reducible refine w_lenT ?_ | with_reducible refine w_lenF ?_ | with_reducible refine w_lenD ?_ | with_reducible refine w_seqL ?_ | with_reducible refine w_seqT ?_ | with_reducible refine w_seqF ?_ | with_reducible refine w_strP ?_ | with_reducible refine w_tupL ?_ | with_reducible refine w_tupT ?_ | with_reducible refine w_keys ?_ | with_reducible refine w_cutL ?_ | with_reducible refine w_revL ?_ | with_reducible refine w_listL ?_ | with_reducible refine w_isN ?_ | with_reducible refine w_isNotN ?_ | with_reducible refine pIteT ?_ | with_reducible refine pIteF ?_ | with_reducible refine exOwn ?_ | with_reducible refine w_eqI ?_ | with_reducible refine w_eqS ?_ | with_reducible refine w_neS ?_ | with_reducible refine w_ixL0 ?_ | ((with_reducible apply w_rdV); exact rfl) | ((with_reducible apply w_rdO); exact rfl) | ((with_reducible apply w_pkV); exact rfl) | ((with_reducible apply w_pkO); exact rfl) | ((with_reducible apply w_mvV); exact rfl) | ((with_reducible apply w_mvO); exact rfl) | ((with_reducible apply w_ownL); exact rfl) | ((with_reducible apply w_calB); exact rfl) | ((with_reducible apply s_gdO); exact rfl) | ((with_reducible apply w_ixLw); exact rfl) | ((with_reducible apply w_ixTw); exact rfl) | ((with_reducible refine And.intro (small_le ?_) ?_); exact rfl) | ((with_reducible refine And.intro ?_ ?_); exact rfl) | ((with_reducible apply s_gTup); exact rfl; exact rfl) | ((with_reducible apply w_appB); exact rfl; exact rfl) | ((with_reducible apply s_stIx); exact rfl; exact rfl) | ((with_reducible apply w_mod); decide) | ((with_reducible apply w_fdiv); decide) | ((with_reducible apply w_mul); first | exact .inl ⟨by omega, by omega⟩ | exact .inr ⟨by omega, by omega⟩) | ((with_reducible apply Exists.intro); (with_reducible apply And.intro); exact rfl))))
section
variable {z : Zf} {E : QE} {Q : R → En → Prop}
theorem s_has {rows : List Row2} {v : D} (hv : tyS v ≠ none) (k : Q (.val (.bl (hasN (fsts rows) v))) [.un, .un]) : W (F_Hierarchy_has_class z) [.val (hierD z.c_Hierarchy rows), .val v] Q E := by
  unfold F_Hierarchy_has_class
  refine w_fn (by rfl) ?_
  walk_at "w"
  refine w_lft (isi_str v hv) ?_
  walk_at "w"
  cases v <;> first | exact absurd rfl hv | skip
  case str x =>
    walk_at "w"
    refine w_ifB (fun c => ?_) fun c => (nomatch c)
    walk_at "w"
    refine w_lft (fld_places _ _) ?_
    refine w_lft (in_dic (idx_len rows)) ?_
    exact k
  all_goals
    refine w_ifB (fun c => (nomatch c)) fun c => ?_
    walk_at "w"
    exact k
theorem s_req {rows : List Row2} {v : D} (hv : tyS v ≠ none) (k : hasN (fsts rows) v = true → Q (.val .non) [.un, .un]) (k2 : hasN (fsts rows) v = false → E (.ref z.c_NotFound) ["value"] [v] [.un, .un]) : W (F_Hierarchy_require_class z) [.val (hierD z.c_Hierarchy rows), .val v] Q E := by
  unfold F_Hierarchy_require_class
  refine w_fn (by rfl) ?_
  walk_at "w"
  refine ⟨hier_obj (by decide +kernel), ?_⟩
  walk_at "w"
  refine s_has hv ?_
  walk_at "w"
  refine s_ifB (fun c => ?_) fun c => ?_
  · walk_at "w"
    exact k2 (by simpa using c)
  · walk_at "w"
    exact k (by simpa using c)
theorem keys_strs (ns : List Str) : ((ns.map (Sum.inr : Str → Key)).map keyD) = ns.map D.str := by rw [List.map_map]; rfl
theorem s_nms {rows : List Row2} (k : Q (.own (.lst ((fsts rows).map D.str))) [.un]) : W (F_Hierarchy_names z) [.val (hierD z.c_Hierarchy rows)] Q E := by
  unfold F_Hierarchy_names
  refine w_fn (by rfl) ?_
  walk_at "w"
  refine w_lft (fld_places _ _) ?_
  refine w_lft (a := .own (.lst (((fsts rows).map (Sum.inr : Str → Key)).map keyD))) (by rfl) ?_
  rw [keys_strs]
  exact k
/-- the classes that all are at or below -/
def comIn (rows : List Row2) (cs : List Str) (n : Str) : Bool := cs.all fun o => decide (o ∈ Anc rows n)
def hiN (rows : List Row2) (cs : List Str) : List Str := hiL (comIn rows cs) (Anc rows) (fsts rows)
theorem hasN_all {ns : List Str} : ∀ {l : List D}, (∀ v ∈ l, hasN ns v = true) → ∃ cs : List Str, l = cs.map D.str ∧ ∀ c ∈ cs, c ∈ ns
  | [], _ => ⟨[], rfl, fun c h => nomatch h⟩
  | v :: l, h => by
    obtain ⟨cs, rfl, hc⟩ := hasN_all fun u hu => h u (List.mem_cons_of_mem _ hu)
    have hv := h v (List.mem_cons_self ..)
    cases v with
    | str x =>
      refine ⟨x :: cs, rfl, fun c m => ?_⟩
      rcases List.mem_cons.mp m with m | m
      · rw [m]; exact of_decide_eq_true hv
      · exact hc c m
    | _ => cases hv
theorem s_hc {rows : List Row2} {d0 : D} {ds : List D} (hr : rows.length ≤ 100) (hd : ∀ v ∈ d0 :: ds, tyS v ≠ none) (hl : ds.length ≤ 100)
    (k : ∀ cs : List Str, d0 :: ds = cs.map D.str → (∀ c ∈ cs, c ∈ fsts rows) → Q (.own (.lst ((hiN rows cs).map D.str))) [.un, .un, .un])
    (k2 : ∀ pre v post, d0 :: ds = pre ++ v :: post → (∀ u ∈ pre, hasN (fsts rows) u = true) → hasN (fsts rows) v = false → E (.ref z.c_NotFound) ["value"] [v] [.un, .un, .un]) :
    W (F_Hierarchy_highest_common z) [.val (hierD z.c_Hierarchy rows), .val d0, .val (.tup ds)] Q E := by
  unfold F_Hierarchy_highest_common
  refine w_fn (by rfl) ?_
  walk_at "w"
  refine w_starA ?_
  walk_at "w"
  refine ⟨le_line (by simp; omega), ?_⟩
  rw [List.append_nil]
  walk_at "w"
  have em : d0 :: ds = (d0 :: ds).map id := by simp
  rw [em]
  refine fr_list id (d0 :: ds) (fun dn ρ => ∃ s4, (∀ v ∈ dn, hasN (fsts rows) v = true) ∧ ρ = [.val (hierD z.c_Hierarchy rows), .val d0, .val (.tup ds), .val (.lst (d0 :: ds)), s4, .un, .un, .un])
    ⟨.un, fun v h => (nomatch h), by rw [← em]; rfl⟩ (fun dn v td ρ e h => ?_) fun ρ h => ?_
  · obtain ⟨s4, h1, rfl⟩ := h
    refine ⟨_, rfl, ?_⟩
    walk_at "w"
    refine ⟨hier_obj (by decide +kernel), ?_⟩
    walk_at "w"
    refine s_req (hd v (by rw [e]; simp)) (fun c => ?_) fun c => ?_
    · refine ⟨_, fun u hu => ?_, rfl⟩
      rcases List.mem_append.mp hu with hu | hu
      · exact h1 u hu
      · rw [List.mem_singleton.mp hu]; exact c
    · exact k2 dn v td e h1 c
  · obtain ⟨s4, h1, rfl⟩ := h
    obtain ⟨cs, ec, hc⟩ := hasN_all h1
    have lc' : cs.length ≤ 101 := by have := congrArg List.length ec; simp at this; omega
    rw [ec]
    walk_at "w"
    refine ⟨hier_obj (by decide +kernel), ?_⟩
    walk_at "w"
    refine s_nms ?_
    walk_at "w"
    have hfl := fsts_len rows
    refine fr_list D.str (fsts rows) (fun dn ρ => ∃ s4 s6, ρ = [.val (hierD z.c_Hierarchy rows), .val d0, .val (.tup ds), .val (.lst (cs.map D.str)), s4, .own (.lst ((hiL (comIn rows cs) (Anc rows) dn).map D.str)), s6, .un] ∧ (hiL (comIn rows cs) (Anc rows) dn).length ≤ dn.length)
      ⟨_, _, rfl, Nat.le_refl _⟩ (fun dn x td ρ e h => ?_) fun ρ h => ?_
    · obtain ⟨s4, s6, rfl, hle⟩ := h
      have hx : x ∈ fsts rows := by rw [e]; simp
      have hdl : dn.length < 100 := by have := congrArg List.length e; simp at this; omega
      have hnext : hiL (comIn rows cs) (Anc rows) (dn ++ [x]) = hiStep (comIn rows cs) (Anc rows) (hiL (comIn rows cs) (Anc rows) dn) x := by unfold hiL; rw [List.foldl_append]; rfl
      rw [hnext]
      generalize hiL (comIn rows cs) (Anc rows) dn = hi at hle
      refine ⟨_, rfl, ?_⟩
      walk_at "w"
      refine w_lc ?_
      walk_at "w"
      refine lc_map D.str (fun o => .bl (decide (o ∈ Anc rows x))) cs (by omega) (fun o ho => ⟨_, rfl, ?_⟩) ?_
      · walk_at "w"
        refine w_lft (fld_above _ _) ?_
        walk_at "w"
        refine w_lft (above_at hx) ?_
        refine w_lft (in_flag o _) ?_
        exact ⟨rfl, rfl⟩
      · refine w_lft (all_map _ _) ?_
        walk_at "w"
        have hci : (cs.all fun o => decide (o ∈ Anc rows x)) = comIn rows cs x := rfl
        rw [hci]
        refine w_ifB (fun c => ?_) fun c => ?_
        · walk_at "w"
          refine w_lc ?_
          walk_at "w"
          refine lc_map D.str (fun o => .bl (decide (o ∈ Anc rows x))) hi (by omega) (fun o ho => ⟨_, rfl, ?_⟩) ?_
          · walk_at "w"
            refine w_lft (fld_above _ _) ?_
            walk_at "w"
            refine w_lft (above_at hx) ?_
            refine w_lft (in_flag o _) ?_
            exact ⟨rfl, rfl⟩
          · refine w_lft (any_map _ _) ?_
            walk_at "w"
            refine s_ifB (fun c2 => ?_) fun c2 => ?_
            · walk_at "w"
              refine w_mutL (by rfl) (app_nat (by rw [List.length_map]; omega)) ?_
              have hs : hiStep (comIn rows cs) (Anc rows) hi x = hi ++ [x] := by unfold hiStep; rw [if_pos (by rw [c, Bool.true_and]; exact c2)]
              rw [hs, List.map_append]
              exact ⟨_, _, rfl, by simp; omega⟩
            · walk_at "w"
              have hs : hiStep (comIn rows cs) (Anc rows) hi x = hi := by unfold hiStep; rw [if_neg (by rw [c, Bool.true_and, c2]; decide)]
              rw [hs]
              exact ⟨_, _, rfl, by simp; omega⟩
        · walk_at "w"
          refine s_ifB (fun c => (nomatch c)) fun _ => ?_
          walk_at "w"
          have hs : hiStep (comIn rows cs) (Anc rows) hi x = hi := by unfold hiStep; rw [if_neg (by rw [c, Bool.false_and]; decide)]
          rw [hs]
          exact ⟨_, _, rfl, by simp; omega⟩
    · obtain ⟨s4, s6, rfl, hle⟩ := h
      walk_at "w"
      exact k cs ec hc
end
end Fk
namespace Fk
open PySem PySem.Spec PyProof.Rows L2 Kv Pu
local macro_rules | `(tactic| walk_at "w") => `(tactic| (repeat' (first | with_reducible refine w_prt ?_ | with_reducible refine w_bnd ?_ | with_reducible refine w_fz ?_ | with_reducible refine w_vl ?_ | with_reducible refine w_op1 ?_ | with_reducible refine w_opR ?_ | with_reducible refine w_opL ?_ | with_reducible refine w_opV ?_ | with_reducible refine w_op2 ?_ | with_reducible refine w_tst ?_ | with_reducible refine w_andV ?_ | with_reducible refine w_orV ?_ | with_reducible refine w_notV ?_ | with_reducible refine w_andB ?_ | with_reducible refine w_orB ?_ | with_reducible refine w_notB ?_ | with_reducible refine w_ifV ?_ | with_reducible refine w_consA ?_ | with_reducible refine w_mkT ?_ | with_reducible refine w_mkL ?_ | with_reducible refine w_ix ?_ | with_reducible refine w_chn ?_ | with_reducible refine w_seqP ?_ | with_reducible refine w_sOpt ?_ | with_reducible refine w_slc ?_ | with_reducible refine w_mts ?_ | with_reducible refine w_mtt ?_ | with_reducible refine w_cal ?_ | with_reducible refine w_met ?_ | with_reducible refine w_met0 ?_ | with_reducible refine w_metS ?_ | with_reducible refine s_sk ?_ | with_reducible refine s_sq ?_ | with_reducible refine s_iff ?_ | with_reducible refine s_ret ?_ | with_reducible refine s_retN ?_ | with_reducible refine s_brk ?_ | with_reducible refine s_cnt ?_ | with_reducible refine s_expr ?_ | with_reducible refine s_set ?_ | with_reducible refine s_unp ?_ | with_reducible refine s_par ?_ | with_reducible refine s_asg ?_ | with_reducible refine s_gName ?_ | with_reducible refine s_asgs0 ?_ | with_reducible refine s_asgs1 ?_ | with_reducible refine s_raise ?_ | with_reducible refine s_for ?_ | with_reducible refine s_gSub ?_ | with_reducible refine s_gPut ?_ | with_reducible refine s_sb ?_ | with_reducible refine w_pow18 ?_ | with_reducible refine w_add ?_ | with_reducible refine w_sub ?_ | with_reducible refine w_lt ?_ | with_reducible refine w_le ?_ | with_reducible refine w_gt ?_ | with_reducible refine w_ge ?_ | with_reducible refine w_max ?_ | with_reducible refine w_min ?_ | with_reducible refine w_abs ?_ | with_reducible refine w_asB ?_ | with_reducible refine w_asI ?_ | with_reducible refine w_lenL ?_ | with_reducible refine w_lenT ?_ | with_reducible refine w_lenF ?_ | with_reducible refine w_lenD ?_ | with_reducible refine w_seqL ?_ | with_reducible refine w_seqT ?_ | with_reducible refine w_seqF ?_ | with_reducible refine w_strP ?_ | with_reducible refine w_tupL ?_ | with_reducible refine w_tupT ?_ | with_reducible refine w_keys ?_ | with_reducible refine w_cutL ?_ | with_reducible refine w_revL ?_ | with_reducible refine w_listL ?_ | with_reducible refine w_isN ?_ | with_reducible refine w_isNotN ?_ | with_reducible refine pIteT ?_ | with_reducible refine pIteF ?_ | with_reducible refine exOwn ?_ | with_reducible refine w_eqI ?_ | with_reducible refine w_eqS ?_ | with_reducible refine w_neS ?_ | with_reducible refine w_ixL0 ?_ | ((with_reducible apply w_rdV); exact rfl) | ((with_reducible apply w_rdO); exact rfl) | ((with_reducible apply w_pkV); exact rfl) | ((with_reducible apply w_pkO); exact rfl) | ((with_reducible apply w_mvV); exact rfl) | ((with_reducible apply w_mvO); exact rfl) | ((with_reducible apply w_ownL); exact rfl) | ((with_reducible apply w_calB); exact rfl) | ((with_reducible apply s_gdO); exact rfl) | ((with_reducible apply w_ixLw); exact rfl) | ((with_reducible apply w_ixTw); exact rfl) | ((with_reducible refine And.intro (small_le ?_) ?_); exact rfl) | ((with_reducible refine And.intro ?_ ?_); exact rfl) | ((with_reducible apply s_gTup); exact rfl; exact rfl) | ((with_reducible apply w_appB); exact rfl; exact rfl) | ((with_reducible apply s_stIx); exact rfl; exact rfl) | ((with_reducible apply w_mod); decide) | ((with_reducible apply w_fdiv); decide) | ((with_reducible apply w_mul); first | exact .inl ⟨by omega, by omega⟩ | exact .inr ⟨by omega, by omega⟩) | ((with_reducible apply Exists.intro); (with_reducible apply And.intro); exact rfl))))
theorem anc_in {rows : List Row2} {x y : Str} (h : y ∈ Anc rows x) : x ∈ fsts rows := by
  apply Classical.byContradiction
  intro z
  have z2 : x ∉ tabKeys (ancTab rows) := by rw [ancTab_keys]; exact z
  have : ∀ t : Tab, x ∉ tabKeys t → look t x = [] := by
    intro t
    induction t with
    | nil => intro _; rfl
    | cons p r ih =>
      intro hx
      obtain ⟨a, as⟩ := p
      have e := look_right (t1 := [(a, as)]) (t2 := r) (x := x) (fun q => hx (by rw [List.mem_singleton.mp q]; exact List.mem_cons_self ..))
      exact e.trans (ih fun q => hx (List.mem_cons_of_mem _ q))
  unfold Anc at h
  rw [this _ z2] at h
  cases h
theorem anc_tr {rows : List Row2} (v : Valid rows) : ∀ x y z, y ∈ Anc rows x → z ∈ Anc rows y → z ∈ Anc rows x := fun x y z h1 h2 => by
  obtain ⟨i, ss, e⟩ := mem_row (anc_in h1)
  exact anc_trans v i e h1 h2
theorem names_pw {rows : List Row2} (v : Valid rows) : (fsts rows).Pairwise fun x y => y ∉ Anc rows x := by
  rw [List.pairwise_iff_getElem]
  intro i j hi hj hij h
  have := names_ord v (List.getElem?_eq_getElem hi) (List.getElem?_eq_getElem hj) h
  omega
theorem anc_self {rows : List Row2} (v : Valid rows) {x : Str} (h : x ∈ fsts rows) : x ∈ Anc rows x := by
  obtain ⟨i, ss, e⟩ := mem_row h
  exact (anc_row v e x).mpr (.inl rfl)
theorem names_nd {rows : List Row2} (v : Valid rows) : (fsts rows).Nodup := by
  rw [List.nodup_iff_pairwise_ne] <;> skip
  refine (names_pw v).imp_of_mem fun {a b} ha hb h z => h ?_
  subst z
  exact anc_self v ha
theorem hiN_eq {rows : List Row2} (v : Valid rows) (cs : List Str) : hiN rows cs = (fsts rows).filter (topIn (comIn rows cs) (Anc rows) (fsts rows)) :=
  hi_eq (anc_tr v) _ (names_nd v) (names_pw v)
theorem filter_is_one {l : List Str} {p : Str → Bool} {n : Str} (nd : l.Nodup) (hn : n ∈ l) (hp : p n = true) : decide (l.filter p = [n]) = !(l.any fun m => decide (m ≠ n) && p m) := by
  have key : l.filter p = [n] ↔ ∀ m ∈ l, m ≠ n → p m = false := by
    constructor
    · intro h m hm ne
      cases hpm : p m with
      | false => rfl
      | true =>
        have : m ∈ l.filter p := List.mem_filter.mpr ⟨hm, hpm⟩
        rw [h] at this
        exact absurd (List.mem_singleton.mp this) ne
    · intro h
      induction l with
      | nil => cases hn
      | cons a l ih =>
        obtain ⟨h1, h2⟩ := List.nodup_cons.mp nd
        rcases List.mem_cons.mp hn with e | e
        · subst e
          rw [List.filter_cons_of_pos hp]
          have : l.filter p = [] := List.filter_eq_nil_iff.mpr fun m hm => by
            rw [h m (List.mem_cons_of_mem _ hm) (fun z => h1 (z ▸ hm))]; decide
          rw [this]
        · have : p a = false := h a (List.mem_cons_self ..) (fun z => h1 (z ▸ e))
          rw [List.filter_cons_of_neg (by rw [this]; decide)]
          exact ih h2 e fun m hm => h m (List.mem_cons_of_mem _ hm)
  by_cases h : l.filter p = [n]
  · rw [decide_eq_true h]
    symm
    rw [Bool.not_eq_true', List.any_eq_false]
    intro m hm z
    rw [Bool.and_eq_true] at z
    rw [key.mp h m hm (of_decide_eq_true z.1)] at z
    exact absurd z.2 (by decide)
  · rw [decide_eq_false h]
    symm
    rw [Bool.not_eq_false', List.any_eq_true]
    apply Classical.byContradiction
    intro c
    refine h (key.mpr fun m hm ne => ?_)
    cases hpm : p m with
    | false => rfl
    | true => exact absurd ⟨m, hm, by rw [decide_eq_true ne, hpm]; rfl⟩ c
/-- what the law finds -/
def upL (rows : List Row2) (cs : List Str) (n : Str) : Bool := cs.all fun o => decide (o ∈ aboveL rows n)
def dueC (rows : List Row2) (cs : List Str) : List Str := (fsts rows).filter (upL rows cs)
def dueL (rows : List Row2) (cs : List Str) : List Str := (dueC rows cs).filter fun n => decide ((dueC rows cs).filter (fun o => decide (o ∈ aboveL rows n)) = [n])
theorem dueL_eq {rows : List Row2} (v : Valid rows) (cs : List Str) : dueL rows cs = hiN rows cs := by
  have e1 : ∀ n ∈ fsts rows, upL rows cs n = comIn rows cs n := fun n hn => by
    unfold upL comIn
    congr 1
    funext o
    exact decide_eq_decide.mpr (mem_above v hn o)
  have e2 : dueC rows cs = (fsts rows).filter (comIn rows cs) := List.filter_congr fun n hn => e1 n hn
  rw [hiN_eq v]
  unfold dueL
  rw [e2, List.filter_filter]
  refine List.filter_congr fun n hn => ?_
  unfold topIn
  cases hc : comIn rows cs n with
  | false => rw [Bool.and_false, Bool.false_and]
  | true =>
    rw [Bool.and_true, Bool.true_and]
    have nd : ((fsts rows).filter (comIn rows cs)).Nodup := (names_nd v).filter _
    have hm : n ∈ (fsts rows).filter (comIn rows cs) := List.mem_filter.mpr ⟨hn, hc⟩
    rw [filter_is_one nd hm (decide_eq_true ((mem_above v hn n).mpr (anc_self v hn)))]
    congr 1
    rw [List.any_filter]
    congr 1
    funext m
    have e5 : decide (m ∈ aboveL rows n) = decide (m ∈ Anc rows n) := decide_eq_decide.mpr (mem_above v hn m)
    rw [e5]
    cases comIn rows cs m <;> cases decide (m ≠ n) <;> simp
theorem hiN_congr {rows : List Row2} {cs ds : List Str} (h : ∀ x, x ∈ cs ↔ x ∈ ds) : hiN rows cs = hiN rows ds := by
  have : comIn rows cs = comIn rows ds := by
    funext n
    unfold comIn
    rw [Bool.eq_iff_iff, List.all_eq_true, List.all_eq_true]
    exact ⟨fun q x hx => q x ((h x).mpr hx), fun q x hx => q x ((h x).mp hx)⟩
  unfold hiN
  rw [this]
theorem hiN_sub {rows : List Row2} (v : Valid rows) (cs : List Str) : ∀ x ∈ hiN rows cs, x ∈ fsts rows := by
  rw [hiN_eq v]
  exact fun x hx => (List.mem_filter.mp hx).1
theorem hiN_len {rows : List Row2} (v : Valid rows) (cs : List Str) : (hiN rows cs).length ≤ rows.length := by
  rw [hiN_eq v, ← fsts_len rows]
  exact List.length_filter_le _ _
def upsD (rows : List Row2) : D := .dic ((fsts rows).map Sum.inr) ((fsts rows).map fun n => .lst ((aboveL rows n).map D.str))
theorem ups_at {rows : List Row2} {x : Str} (h : x ∈ fsts rows) : ixD (upsD rows) (.str x) = some (.lst ((aboveL rows x).map D.str)) := by
  unfold upsD
  simp only [ixD, getD, asKey, Option.map_some, valD_map]
  rw [if_pos h]
  rfl
section
variable {z : Zf} {E : QE} {Q : R → En → Prop}
theorem s_above {rows : List Row2} {label : Str} (hr : rows.length ≤ 100) (h3 : ∀ r ∈ rows, r.2.length ≤ 3) (k : Q (.own (.lst ((aboveL rows label).map D.str))) [.un, .un]) : W (F__law_above z) [.val (.lst (rows.map rowD)), .val (.str label)] Q E := by
  unfold F__law_above
  refine w_fn (by rfl) ?_
  walk_at "w"
  rw [← List.map_reverse]
  refine fr_list rowD rows.reverse (fun dn ρ => ∃ s3 s4, (dn.foldl stepUp [label]).length ≤ 1 + 3 * dn.length ∧ ρ = [.val (.lst (rows.map rowD)), .val (.str label), .own (.lst ((dn.foldl stepUp [label]).map D.str)), s3, s4, .un])
    ⟨_, _, by simp, rfl⟩ (fun dn r td ρ e h => ?_) fun ρ h => ?_
  · obtain ⟨s3, s4, hle, rfl⟩ := h
    have hdl : dn.length < 100 := by have := congrArg List.length e; simp at this; omega
    have hrm : r.2.length ≤ 3 := h3 r (List.mem_reverse.mp (by rw [e]; simp))
    rw [List.foldl_append]
    show ∃ ρ1, gset (.many [3, 4]) (.tup [.str r.1, .tup (r.2.map D.str)]) _ = some ρ1 ∧ _
    generalize dn.foldl stepUp [label] = found at hle
    refine ⟨_, rfl, ?_⟩
    walk_at "w"
    refine w_lft (in_strs _ _) ?_
    walk_at "w"
    refine s_ifB (fun c => ?_) fun c => ?_
    · walk_at "w"
      refine w_lc ?_
      walk_at "w"
      refine lc_filter D.str (fun y => decide (y ∉ found)) D.str r.2 (by omega) (fun y hy => ⟨_, rfl, ?_⟩) ?_
      · walk_at "w"
        refine w_lft (notIn_strs y found) ?_
        walk_at "w"
        by_cases c : y ∈ found
        · refine pIteB (fun h => absurd h (by simp [c])) fun _ => ?_
          exact ⟨by simp [c], rfl⟩
        · refine pIteB (fun h => ?_) fun h => absurd h (by simp [c])
          walk_at "w"
          exact ⟨by simp [c], rfl⟩
      · walk_at "w"
        have fl := List.length_filter_le (fun y => decide (y ∉ found)) r.2
        refine w_mutL (by rfl) (ext_nat (by rw [List.length_map, List.length_map]; omega)) ?_
        have hs : [r].foldl stepUp found = found ++ r.2.filter fun y => decide (y ∉ found) := by
          show stepUp found r = _
          unfold stepUp
          rw [if_pos (of_decide_eq_true c)]
        rw [hs, List.map_append]
        exact ⟨_, _, by simp; simp at fl; omega, rfl⟩
    · walk_at "w"
      have hs : [r].foldl stepUp found = found := by
        show stepUp found r = _
        unfold stepUp
        rw [if_neg (of_decide_eq_false c)]
      rw [hs]
      exact ⟨_, _, by simp; omega, rfl⟩
  · obtain ⟨s3, s4, hle, rfl⟩ := h
    have e : rows.reverse.foldl stepUp [label] = aboveL rows label := by
      unfold aboveL aboveAt
      rw [List.take_of_length_le (by simp)]
    rw [e]
    walk_at "w"
    exact k
theorem s_ups {rows : List Row2} (v : Valid rows) (hr : rows.length ≤ 100) (h3 : ∀ r ∈ rows, r.2.length ≤ 3) (k : Q (.own (upsD rows)) [.un]) : W (F__law_ups z) [.val (.lst (rows.map rowD))] Q E := by
  unfold F__law_ups
  refine w_fn (by rfl) ?_
  walk_at "w"
  refine w_lc ?_
  walk_at "w"
  refine lc_map rowD (fun r => .tup [.str r.1, .lst ((aboveL rows r.1).map D.str)]) rows (by omega) (fun r hr' => ⟨_, rfl, ?_⟩) ?_
  · walk_at "w"
    refine w_lft (a := .str r.1) (by rfl) ?_
    walk_at "w"
    refine w_lft (a := .str r.1) (by rfl) ?_
    walk_at "w"
    refine s_above hr h3 ?_
    walk_at "w"
    exact rfl
  · have := dictP_map (fun r : Row2 => r.1) (fun r : Row2 => .lst ((aboveL rows r.1).map D.str)) rows (names_nd v)
    refine w_lft this ?_
    have e : (R.own (.dic ((rows.map fun r : Row2 => r.1).map Sum.inr) (rows.map fun r : Row2 => .lst ((aboveL rows r.1).map D.str)))) = R.own (upsD rows) := by
      unfold upsD fsts
      rw [List.map_map, List.map_map]
      rfl
    rw [e]
    exact k
theorem ups_keys {rows : List Row2} : keysD (upsD rows) = some ((fsts rows).map D.str) := by
  unfold upsD
  simp only [keysD, keys_strs]
theorem s_due {rows : List Row2} {cs : List Str} (v : Valid rows) (hr : rows.length ≤ 100) (hn : ∀ x ∈ fsts rows, Nm x) (hc : cs.length ≤ 1000) (k : Q (.own (.lst ((hiN rows cs).map D.str))) [.un, .un]) : W (F__law_due z) [.val (upsD rows), .val (.lst (cs.map D.str))] Q E := by
  rw [← dueL_eq v] at k
  have hfl := fsts_len rows
  unfold F__law_due
  refine w_fn (by rfl) ?_
  walk_at "w"
  refine w_lc ?_
  walk_at "w"
  refine w_lft ups_keys ?_
  refine lc_filter D.str (upL rows cs) D.str (fsts rows) (by omega) (fun n hn' => ⟨_, rfl, ?_⟩) ?_
  · walk_at "w"
    refine w_lc ?_
    walk_at "w"
    refine lc_map D.str (fun o => .bl (decide (o ∈ aboveL rows n))) cs (by omega) (fun o ho => ⟨_, rfl, ?_⟩) ?_
    · walk_at "w"
      refine w_lft (ups_at hn') ?_
      refine w_lft (in_strs _ _) ?_
      exact ⟨rfl, rfl⟩
    · refine w_lft (all_map _ _) ?_
      walk_at "w"
      refine pIteB (fun c => ?_) fun c => ?_
      · walk_at "w"
        have c : upL rows cs n = true := c
        exact ⟨by rw [if_pos c], rfl⟩
      · have c : upL rows cs n = false := c
        exact ⟨by rw [c]; rfl, rfl⟩
  · walk_at "w"
    refine w_lc ?_
    walk_at "w"
    have hdl : (dueC rows cs).length ≤ 100 := by unfold dueC; have := List.length_filter_le (upL rows cs) (fsts rows); omega
    have hsub : ∀ n ∈ dueC rows cs, n ∈ fsts rows := fun n h => (List.mem_filter.mp h).1
    have sm : ∀ x ∈ fsts rows, PyData.strOk x = true := fun x hx => sm_ok (name_sm (hn x hx).1)
    show ∃ ys ρ2, lcL _ _ _ ((dueC rows cs).map D.str) _ [] = some (ys, ρ2) ∧ _
    refine lc_filter D.str (fun n => decide ((dueC rows cs).filter (fun o => decide (o ∈ aboveL rows n)) = [n])) D.str (dueC rows cs) (by omega) (fun n hn' => ⟨_, rfl, ?_⟩) ?_
    · walk_at "w"
      refine w_lc ?_
      walk_at "w"
      refine lc_filter D.str (fun o => decide (o ∈ aboveL rows n)) D.str (dueC rows cs) (by omega) (fun o ho => ⟨_, rfl, ?_⟩) ?_
      · walk_at "w"
        refine w_lft (ups_at (hsub n hn')) ?_
        refine w_lft (in_strs _ _) ?_
        walk_at "w"
        refine pIteB (fun c => ?_) fun c => ?_
        · walk_at "w"
          exact ⟨by rw [if_pos c], rfl⟩
        · exact ⟨by rw [c]; rfl, rfl⟩
      · walk_at "w"
        refine w_lft (eq_strs _ [n] (fun x hx => sm x (hsub x (List.mem_filter.mp hx).1)) fun x hx => sm x (by rw [List.mem_singleton.mp hx]; exact hsub n hn')) ?_
        walk_at "w"
        refine pIteB (fun c => ?_) fun c => ?_
        · walk_at "w"
          exact ⟨by rw [if_pos c], rfl⟩
        · exact ⟨by rw [c]; rfl, rfl⟩
    · exact k
end
end Fk
namespace Fk
open PySem PySem.Spec PyProof.Rows L2 Kv Pu
local macro_rules | `(tactic| walk_at "w") => `(tactic| (repeat' (first | with_reducible refine w_prt ?_ | with_reducible refine w_bnd ?_ | with_reducible refine w_fz ?_ | with_reducible refine w_vl ?_ | with_reducible refine w_op1 ?_ | with_reducible refine w_opR ?_ | with_reducible refine w_opL ?_ | with_reducible refine w_opV ?_ | with_reducible refine w_op2 ?_ | with_reducible refine w_tst ?_ | with_reducible refine w_andV ?_ | with_reducible refine w_orV ?_ | with_reducible refine w_notV ?_ | with_reducible refine w_andB ?_ | with_reducible refine w_orB ?_ | with_reducible refine w_notB ?_ | with_reducible refine w_ifV ?_ | with_reducible refine w_consA ?_ | with_reducible refine w_mkT ?_ | with_reducible refine w_mkL ?_ | with_reducible refine w_ix ?_ | with_reducible refine w_chn ?_ | with_reducible refine w_seqP ?_ | with_reducible refine w_sOpt ?_ | with_reducible refine w_slc ?_ | with_reducible refine w_mts ?_ | with_reducible refine w_mtt ?_ | with_reducible refine w_cal ?_ | with_reducible refine w_met ?_ | with_reducible refine w_met0 ?_ | with_reducible refine w_metS ?_ | with_reducible refine s_sk ?_ | with_reducible refine s_sq ?_ | with_reducible refine s_iff ?_ | with_reducible refine s_ret ?_ | with_reducible refine s_retN ?_ | with_reducible refine s_brk ?_ | with_reducible refine s_cnt ?_ | with_reducible refine s_expr ?_ | with_reducible refine s_set ?_ | with_reducible refine s_unp ?_ | with_reducible refine s_par ?_ | with_reducible refine s_asg ?_ | with_reducible refine s_gName ?_ | with_reducible refine s_asgs0 ?_ | with_reducible refine s_asgs1 ?_ | with_reducible refine s_raise ?_ | with_reducible refine s_for ?_ | with_reducible refine s_gSub ?_ | with_reducible refine s_gPut ?_ | with_reducible refine s_sb ?_ | with_reducible refine w_pow18 ?_ | with_reducible refine w_add ?_ | with_reducible refine w_sub ?_ | with_reducible refine w_lt ?_ | with_reducible refine w_le ?_ | with_reducible refine w_gt ?_ | with_reducible refine w_ge ?_ | with_reducible refine w_max ?_ | with_reducible refine w_min ?_ | with_reducible refine w_abs ?_ | with_reducible refine w_asB ?_ | with_reducible refine w_asI ?_ | with_reducible refine w_lenL ?_ | with_reducible refine w_lenT ?_ | with_reducible refine w_lenF ?_ | with_reducible refine w_lenD ?_ | with_reducible refine w_seqL ?_ | with_reducible refine w_seqT ?_ | with_reducible refine w_seqF ?_ | with_reducible refine w_strP ?_ | with_reducible refine w_tupL ?_ | with_reducible refine w_tupT ?_ | with_reducible refine w_keys ?_ | with_reducible refine w_cutL ?_ | with_reducible refine w_revL ?_ | with_reducible refine w_listL ?_ | with_reducible refine w_isN ?_ | with_reducible refine w_isNotN ?_ | with_reducible refine pIteT ?_ | with_reducible refine pIteF ?_ | with_reducible refine exOwn ?_ | with_reducible refine w_eqI ?_ | with_reducible refine w_eqS ?_ | with_reducible refine w_neS ?_ | with_reducible refine w_ixL0 ?_ | ((with_reducible apply w_rdV); exact rfl) | ((with_reducible apply w_rdO); exact rfl) | ((with_reducible apply w_pkV); exact rfl) | ((with_reducible apply w_pkO); exact rfl) | ((with_reducible apply w_mvV); exact rfl) | ((with_reducible apply w_mvO); exact rfl) | ((with_reducible apply w_ownL); exact rfl) | ((with_reducible apply w_calB); exact rfl) | ((with_reducible apply s_gdO); exact rfl) | ((with_reducible apply w_ixLw); exact rfl) | ((with_reducible apply w_ixTw); exact rfl) | ((with_reducible refine And.intro (small_le ?_) ?_); exact rfl) | ((with_reducible refine And.intro ?_ ?_); exact rfl) | ((with_reducible apply s_gTup); exact rfl; exact rfl) | ((with_reducible apply w_appB); exact rfl; exact rfl) | ((with_reducible apply s_stIx); exact rfl; exact rfl) | ((with_reducible apply w_mod); decide) | ((with_reducible apply w_fdiv); decide) | ((with_reducible apply w_mul); first | exact .inl ⟨by omega, by omega⟩ | exact .inr ⟨by omega, by omega⟩) | ((with_reducible apply Exists.intro); (with_reducible apply And.intro); exact rfl))))
section
variable {z : Zf} {E : QE} {Q : R → En → Prop}
theorem s_told {rows : List Row2} {ds : List D} (hr : rows.length ≤ 100) (hd : ∀ v ∈ ds, tyS v ≠ none) (h1 : 0 < ds.length) (h6 : ds.length ≤ 6)
    (k : ∀ cs : List Str, ds = cs.map D.str → (∀ c ∈ cs, c ∈ fsts rows) → Q (.own (.lst ((hiN rows cs).map D.str))) [.un, .un])
    (k2 : ∀ pre v post, ds = pre ++ v :: post → (∀ u ∈ pre, hasN (fsts rows) u = true) → hasN (fsts rows) v = false → E (.ref z.c_NotFound) ["value"] [v] [.un, .un]) :
    W (F__law_told z) [.val (hierD z.c_Hierarchy rows), .val (.lst ds)] Q E := by
  have ho : isObj z.c_Hierarchy "highest_common" (hierD z.c_Hierarchy rows) = true := hier_obj (by decide +kernel)
  unfold F__law_told
  refine w_fn (by rfl) ?_
  match ds, h1, h6, hd, k, k2 with
  | [d0], _, _, hd, k, k2 =>
    walk_at "w"
    refine s_ifB (fun _ => ?_) fun c => absurd c (by simp)
    walk_at "w"
    refine ⟨ho, ?_⟩
    walk_at "w"
    exact ⟨by simp, small_le rfl, s_hc hr hd (by simp) k k2⟩
  | [d0, d1], _, _, hd, k, k2 =>
    walk_at "w"
    refine s_ifB (fun c => absurd c (by simp)) fun _ => ?_
    walk_at "w"
    refine s_ifB (fun _ => ?_) fun c => absurd c (by simp)
    walk_at "w"
    refine ⟨ho, ?_⟩
    walk_at "w"
    exact ⟨by simp, small_le rfl, s_hc hr hd (by simp) k k2⟩
  | [d0, d1, d2], _, _, hd, k, k2 =>
    walk_at "w"
    refine s_ifB (fun c => absurd c (by simp)) fun _ => ?_
    walk_at "w"
    refine s_ifB (fun c => absurd c (by simp)) fun _ => ?_
    walk_at "w"
    refine s_ifB (fun _ => ?_) fun c => absurd c (by simp)
    walk_at "w"
    refine ⟨ho, ?_⟩
    walk_at "w"
    exact ⟨by simp, small_le rfl, s_hc hr hd (by simp) k k2⟩
  | [d0, d1, d2, d3], _, _, hd, k, k2 =>
    walk_at "w"
    refine s_ifB (fun c => absurd c (by simp)) fun _ => ?_
    walk_at "w"
    refine s_ifB (fun c => absurd c (by simp)) fun _ => ?_
    walk_at "w"
    refine s_ifB (fun c => absurd c (by simp)) fun _ => ?_
    walk_at "w"
    refine s_ifB (fun _ => ?_) fun c => absurd c (by simp)
    walk_at "w"
    refine ⟨ho, ?_⟩
    walk_at "w"
    exact ⟨by simp, small_le rfl, s_hc hr hd (by simp) k k2⟩
  | [d0, d1, d2, d3, d4], _, _, hd, k, k2 =>
    walk_at "w"
    refine s_ifB (fun c => absurd c (by simp)) fun _ => ?_
    walk_at "w"
    refine s_ifB (fun c => absurd c (by simp)) fun _ => ?_
    walk_at "w"
    refine s_ifB (fun c => absurd c (by simp)) fun _ => ?_
    walk_at "w"
    refine s_ifB (fun c => absurd c (by simp)) fun _ => ?_
    walk_at "w"
    refine s_ifB (fun _ => ?_) fun c => absurd c (by simp)
    walk_at "w"
    refine ⟨ho, ?_⟩
    walk_at "w"
    exact ⟨by simp, small_le rfl, s_hc hr hd (by simp) k k2⟩
  | [d0, d1, d2, d3, d4, d5], _, _, hd, k, k2 =>
    walk_at "w"
    refine s_ifB (fun c => absurd c (by simp)) fun _ => ?_
    walk_at "w"
    refine s_ifB (fun c => absurd c (by simp)) fun _ => ?_
    walk_at "w"
    refine s_ifB (fun c => absurd c (by simp)) fun _ => ?_
    walk_at "w"
    refine s_ifB (fun c => absurd c (by simp)) fun _ => ?_
    walk_at "w"
    refine s_ifB (fun c => absurd c (by simp)) fun _ => ?_
    walk_at "w"
    refine ⟨ho, ?_⟩
    walk_at "w"
    exact ⟨by simp, small_le rfl, s_hc hr hd (by simp) k k2⟩
  | _ :: _ :: _ :: _ :: _ :: _ :: _ :: _, _, h6, _, _, _ => exact absurd h6 (by simp)
theorem s_missing {rows : List Row2} {ds : List D} {pre post : List D} {v : D} {s : Str} (hx : PySem.W.exmOne z.K (.ref z.c_NotFound) (.ref z.c_NotFound) = some true) (hr : rows.length ≤ 100) (hd : ∀ v ∈ ds, tyS v ≠ none) (h6 : ds.length ≤ 6)
    (e : ds = pre ++ v :: post) (hp : ∀ u ∈ pre, hasN (fsts rows) u = true) (hv : hasN (fsts rows) v = false) (hs : shD v = some (.str s)) (k : Q (.val (.str s)) [.un, .un]) : W (F__law_missing z) [.val (hierD z.c_Hierarchy rows), .val (.lst ds)] Q E := by
  unfold F__law_missing
  refine w_fn (by rfl) ?_
  walk_at "w"
  refine s_tryN ?_
  walk_at "w"
  have fb : ∀ pre2 u post2, ds = pre2 ++ u :: post2 → (∀ u ∈ pre2, hasN (fsts rows) u = true) → hasN (fsts rows) u = false → u = v := fun pre2 u post2 e2 h2 hu => by
    have : ∀ (p q : List D) (a b : D) (r t : List D), p ++ a :: r = q ++ b :: t → (∀ u ∈ p, hasN (fsts rows) u = true) → (∀ u ∈ q, hasN (fsts rows) u = true) → hasN (fsts rows) a = false → hasN (fsts rows) b = false → a = b := by
      intro p
      induction p with
      | nil =>
        intro q a b r t e h1 h2 ha hb
        cases q with
        | nil => exact (List.cons.inj e).1
        | cons c q =>
          have := (List.cons.inj e).1
          subst this
          rw [h2 _ (List.mem_cons_self ..)] at ha
          cases ha
      | cons c p ih =>
        intro q a b r t e h1 h2 ha hb
        cases q with
        | nil =>
          have := (List.cons.inj e).1
          subst this
          rw [h1 _ (List.mem_cons_self ..)] at hb
          cases hb
        | cons d q => exact ih q a b r t (List.cons.inj e).2 (fun u hu => h1 u (List.mem_cons_of_mem _ hu)) (fun u hu => h2 u (List.mem_cons_of_mem _ hu)) ha hb
    exact this pre2 pre u v post2 post (e2.symm.trans e) h2 hp hu hv
  refine s_told hr hd (by rw [e, List.length_append, List.length_cons]; omega) h6 (fun cs e2 hc => ?_) fun pre2 u post2 e2 h2 hu => ?_
  · have : hasN (fsts rows) v = true := by
      have hm : v ∈ cs.map D.str := by rw [← e2, e]; simp
      obtain ⟨c, hc', rfl⟩ := List.mem_map.mp hm
      exact decide_eq_true (hc c hc')
    rw [hv] at this
    cases this
  · obtain rfl := fb pre2 u post2 e2 h2 hu
    refine ⟨hx, [.val (hierD z.c_Hierarchy rows), .val (.lst ds), .val (.str s), .un], fun a dx => ?_, ?_⟩
    · walk_at "w"
      have ex : exf a dx (.ref z.c_NotFound) z.c_NotFound "value" (.exn a dx (.ref z.c_NotFound) ["value"] [u]) = some u := by
        simp only [exf]
        rw [if_pos (by simp)]
        rfl
      refine w_lft ex ?_
      refine w_lft hs ?_
      rfl
    · walk_at "w"
      exact k
/-- the odd values: none of them is a class, all are shown -/
theorem not_up {rows : List Row2} (hn : ∀ x ∈ fsts rows, Nm x) {l0 : Str} (h0 : Nm l0) : Txt.upper l0 ∉ fsts rows := by
  intro h
  have hu := (hn _ h).1
  have s0 := name_sm h0.1
  have h1 : ((decide (1 ≤ l0.length) && decide (l0.length ≤ 8)) && l0.cps.toList.all inAz) = true := h0.1
  simp only [Bool.and_eq_true, decide_eq_true_eq, List.all_eq_true] at h1
  have h2 : ((decide (1 ≤ (Txt.upper l0).length) && decide ((Txt.upper l0).length ≤ 8)) && (Txt.upper l0).cps.toList.all inAz) = true := hu
  simp only [Bool.and_eq_true, decide_eq_true_eq, List.all_eq_true] at h2
  rw [upper_ascii s0.2] at h2
  have h3 : ∀ c ∈ (l0.cps.map up1).toList, inAz c = true := h2.2
  rw [Array.toList_map] at h3
  have hne : 0 < l0.cps.toList.length := by rw [← Kv.len_list]; exact h1.1.1
  obtain ⟨c, r, ec⟩ : ∃ c r, l0.cps.toList = c :: r := by
    cases e : l0.cps.toList with
    | nil => rw [e] at hne; cases hne
    | cons c r => exact ⟨c, r, rfl⟩
  have a1 := of_decide_eq_true (h1.2 c (by rw [ec]; simp))
  have a2 := of_decide_eq_true (h3 (up1 c) (by rw [ec]; simp))
  have : ∀ c ∈ az, up1 c ∉ az := by decide +kernel
  exact this c a1 a2
def odds (l0 : Str) : List D := [.non, .int 0, .bl true, .str "", .str "abc", .str (Txt.upper l0), .lst [.str l0], .tup [.str l0], .dic [] [], .tup []]
theorem odds_ok {rows : List Row2} (hn : ∀ x ∈ fsts rows, Nm x) {l0 : Str} (h0 : Nm l0) : ∀ d ∈ odds l0, tyS d ≠ none ∧ hasN (fsts rows) d = false ∧ ∃ s, shD d = some (.str s) := by
  have s0 := name_sm h0.1
  intro d hd
  simp only [odds, List.mem_cons, List.not_mem_nil, or_false] at hd
  have nostr : ∀ x : Str, (∀ y, Nm y → y ≠ x) → hasN (fsts rows) (.str x) = false := fun x h => decide_eq_false fun m => h x (hn x m) rfl
  rcases hd with rfl | rfl | rfl | rfl | rfl | rfl | rfl | rfl | rfl | rfl
  · exact ⟨by simp [tyS], rfl, _, sh_of rfl fit_non (by decide) (by decide)⟩
  · exact ⟨by simp [tyS], rfl, _, sh_of rfl (fit_int (by decide)) (by decide) (by decide)⟩
  · exact ⟨by simp [tyS], rfl, _, sh_of rfl fit_bl (by decide) (by decide)⟩
  · exact ⟨by simp [tyS], nostr _ fun y hy e => by subst e; exact absurd hy.2 (by decide), _, sh_of rfl (Sm.fit (n := 8) ⟨by decide, by decide⟩) (by decide) (by decide)⟩
  · exact ⟨by simp [tyS], nostr _ fun y hy e => by subst e; exact absurd hy.2 (by decide), _, sh_of rfl (Sm.fit (n := 8) ⟨by decide, by decide⟩) (by decide) (by decide)⟩
  · exact ⟨by simp [tyS], decide_eq_false (not_up hn h0), _, sh_of rfl s0.upper.fit (by decide) (by decide)⟩
  · exact ⟨by simp [tyS], rfl, _, sh_of rfl (Fit.lst (FitAll.cons s0.fit fitAll_nil)) (by decide) (by decide)⟩
  · exact ⟨by simp [tyS], rfl, _, sh_of rfl (Fit.tup (FitAll.cons s0.fit fitAll_nil)) (by decide) (by decide)⟩
  · refine ⟨by simp [tyS], rfl, (PyData.dict []).shown, ?_⟩
    show showP (.dict []) = _
    unfold showP
    rw [if_pos ((Fit.dict (m := 0) fitKv_nil).ok (by decide) (by decide))]
  · exact ⟨by simp [tyS], rfl, _, sh_of rfl (Fit.tup (m := 0) fitAll_nil) (by decide) (by decide)⟩
theorem odds_len (l0 : Str) : (odds l0).length = 10 := rfl
/-- some classes, drawn -/
theorem s_some {p : D} {l : List Str} {ρ0 : En} {i t j : Nat} {fz0 : P D} {Z : List D → En → Prop} (n : Nat) : True := trivial
theorem s_row_right {p : D} {rows : List Row2} {cs : List Str} (hp : Pot p) (v : Valid rows) (hr : rows.length ≤ 100) (hn : ∀ x ∈ fsts rows, Nm x) (hc : ∀ c ∈ cs, c ∈ fsts rows) (h1 : 0 < cs.length) (h6 : cs.length ≤ 6)
    (k : ∀ p2, Pot p2 → Q (.val (.bl true)) [.own p2, .un, .un, .un]) : W (F__law_row_right z) [.own p, .val (hierD z.c_Hierarchy rows), .val (upsD rows), .val (.lst (cs.map D.str))] Q E := by
  have hl := hiN_len v cs
  have sh : shD (.lst ((hiN rows cs).map D.str)) = some (.str (PyData.list ((hiN rows cs).map PyData.str)).shown) := sh_strs (n := 8) (fun x hx => name_sm (hn x (hiN_sub v cs x hx)).1) (by omega)
  have ty : ∀ l : List Str, ∀ v ∈ l.map D.str, tyS v ≠ none := fun l v hv => by
    obtain ⟨x, _, rfl⟩ := List.mem_map.mp hv
    simp [tyS]
  have bad : ∀ l : List Str, (∀ c ∈ l, c ∈ fsts rows) → ∀ pre u post, l.map D.str = pre ++ u :: post → hasN (fsts rows) u = false → False := fun l hl pre u post e hu => by
    have hm : u ∈ l.map D.str := by rw [e]; simp
    obtain ⟨c, hc', rfl⟩ := List.mem_map.mp hm
    have : hasN (fsts rows) (.str c) = true := decide_eq_true (hl c hc')
    rw [hu] at this
    cases this
  have inj : ∀ l m : List Str, l.map D.str = m.map D.str → l = m := fun l m h => by
    have := congrArg strsD h
    rw [strsD_map, strsD_map] at this
    exact Option.some.inj this
  unfold F__law_row_right
  refine w_fn (by rfl) ?_
  walk_at "w"
  refine s_due v hr hn (by omega) ?_
  refine w_lft sh ?_
  walk_at "w"
  refine s_told hr (ty cs) (by rw [List.length_map]; exact h1) (by rw [List.length_map]; exact h6) (fun cs2 e2 _ => ?_) fun pre u post e _ hu => (bad cs hc pre u post e hu).elim
  obtain rfl := inj _ _ e2
  walk_at "w"
  refine w_lft sh ?_
  walk_at "w"
  refine s_ifB (fun c => absurd c (by simp)) fun _ => ?_
  walk_at "w"
  refine w_mutL (by rfl) (by rfl) ?_
  walk_at "w"
  refine w_mutL (by rfl) (app_nat (by rw [List.length_reverse, List.length_map]; omega)) ?_
  walk_at "w"
  refine s_mixed hp (by rw [List.length_map]; omega) fun ys p2 pm hp2 => ?_
  obtain ⟨zs, rfl, pm2⟩ := map_perm pm
  walk_at "w"
  have hz : zs.length = cs.length := pm2.length_eq
  refine s_told hr (ty zs) (by rw [List.length_map]; omega) (by rw [List.length_map]; omega) (fun cs2 e2 _ => ?_) fun pre u post e _ hu => (bad zs (fun c hc' => hc c (pm2.mem_iff.mp hc')) pre u post e hu).elim
  obtain rfl := inj _ _ e2
  rw [hiN_congr (cs := zs) (ds := cs) fun x => pm2.mem_iff]
  refine w_lft sh ?_
  walk_at "w"
  refine w_ifB (fun _ => ?_) fun c => absurd c (by simp)
  walk_at "w"
  refine w_lft (add_lst (by rw [List.length_map]; omega)) ?_
  walk_at "w"
  have e6 : cutD (cs.map D.str ++ cs.map D.str) none (some 6) = ((cs ++ cs).take 6).map D.str := by
    have := cut_takeD (xs := cs.map D.str ++ cs.map D.str) (k := 6)
    rw [← List.map_append] at this ⊢
    rw [List.map_take]
    exact this
  rw [e6]
  have hm6 : ∀ x, x ∈ (cs ++ cs).take 6 ↔ x ∈ cs := fun x => by
    constructor
    · intro h
      rcases List.mem_append.mp (List.mem_of_mem_take h) with h | h <;> exact h
    · intro h
      rw [List.take_append, List.take_of_length_le h6]
      exact List.mem_append_left _ h
  refine s_told hr (ty _) (by rw [List.length_map, List.length_take, List.length_append]; omega) (by rw [List.length_map, List.length_take]; omega) (fun cs2 e2 _ => ?_) fun pre u post e _ hu => (bad _ (fun c hc' => hc c ((hm6 c).mp hc')) pre u post e hu).elim
  obtain rfl := inj _ _ e2
  rw [hiN_congr (ds := cs) hm6]
  refine w_lft sh ?_
  walk_at "w"
  have e7 : (decide ((PyData.list ((hiN rows cs).map PyData.str)).shown = (PyData.list ((hiN rows cs).map PyData.str)).shown)) = true := decide_eq_true rfl
  rw [e7]
  exact k p2 hp2
theorem s_missing_right {p : D} {rows : List Row2} (hx : PySem.W.exmOne z.K (.ref z.c_NotFound) (.ref z.c_NotFound) = some true) (hp : Pot p) (h0 : 0 < rows.length) (hr : rows.length ≤ 100) (hn : ∀ x ∈ fsts rows, Nm x)
    (k : ∀ p2, Pot p2 → Q (.val (.bl true)) [.own p2, .un, .un]) : W (F__law_missing_right z) [.own p, .val (hierD z.c_Hierarchy rows), .val (.lst ((fsts rows).map D.str))] Q E := by
  obtain ⟨l0, ls, el⟩ : ∃ l0 ls, fsts rows = l0 :: ls := by
    cases e : fsts rows with
    | nil => have := fsts_len rows; rw [e] at this; simp at this; omega
    | cons a b => exact ⟨a, b, rfl⟩
  have hl0 : Nm l0 := hn l0 (by rw [el]; simp)
  have ok := odds_ok hn hl0
  have hfl := fsts_len rows
  have e0 : ixD (.lst ((fsts rows).map D.str)) (.int 0) = some (.str l0) := by rw [el]; exact L2.atI_nat (j := 0) rfl
  have up : upD l0 [] = some (.str (Txt.upper l0)) := by
    have := (name_sm hl0.1).1
    simp only [upD]
    rw [if_pos (by omega)]
  have pick : ∀ x : Nat, x < 10 → ∃ d, (odds l0)[x]? = some d ∧ d ∈ odds l0 := fun x h => ⟨_, List.getElem?_eq_getElem h, List.getElem_mem h⟩
  unfold F__law_missing_right
  refine w_fn (by rfl) ?_
  walk_at "w"
  refine w_lft e0 ?_
  walk_at "w"
  refine w_lft up ?_
  walk_at "w"
  refine w_lft e0 ?_
  walk_at "w"
  refine w_lft e0 ?_
  walk_at "w"
  refine w_lc ?_
  walk_at "w"
  refine s_drawN (n := 6) hp (by omega) (by omega) fun x p2 hx6 hp2 => ?_
  walk_at "w"
  have e1 : (1 + (x : Int)) = ((1 + x : Nat) : Int) := by omega
  rw [e1]
  refine w_rng (by omega) ?_
  refine lc_list _ (List.range (1 + x)) (by rw [List.length_range]; omega) (fun dn acc ρ => ∃ p cs, Pot p ∧ acc = cs.map D.str ∧ cs.length = dn.length ∧ (∀ c ∈ cs, c ∈ fsts rows) ∧ ρ = [.own p, .val (hierD z.c_Hierarchy rows), .val (.lst ((fsts rows).map D.str)), .own (.lst (odds l0)), .un, .un, .un, .un, .un, .un])
    ⟨p2, [], hp2, rfl, rfl, fun c h => (nomatch h), rfl⟩ (fun dn y td acc ρ e h => ?_) fun acc ρ h => ?_
  · obtain ⟨p1, cs, hp1, rfl, h2, h3, rfl⟩ := h
    refine ⟨_, rfl, ?_⟩
    walk_at "w"
    refine s_drawN hp1 (by rw [List.length_map]; omega) (by rw [List.length_map]; omega) fun x p2 hx' hp2 => ?_
    walk_at "w"
    rw [List.length_map] at hx'
    refine w_ixL (d := .str (fsts rows)[x]) (by rw [List.getElem?_map, List.getElem?_eq_getElem hx']; rfl) ?_
    refine ⟨p2, cs ++ [(fsts rows)[x]], hp2, by rw [List.map_append]; rfl, by simp [h2], fun c hc => ?_, rfl⟩
    rcases List.mem_append.mp hc with hc | hc
    · exact h3 c hc
    · rw [List.mem_singleton.mp hc]; exact List.getElem_mem _
  · obtain ⟨p1, cs, hp1, rfl, h2, h3, rfl⟩ := h
    rw [List.length_range] at h2
    walk_at "w"
    refine s_drawN (n := 10) hp1 (by omega) (by omega) fun y p3 hy hp3 => ?_
    obtain ⟨d, ed, md⟩ := pick y hy
    walk_at "w"
    refine w_ixL ed ?_
    walk_at "w"
    refine s_drawN hp3 (by rw [List.length_map]; omega) (by rw [List.length_map]; omega) fun a p4 ha hp4 => ?_
    rw [List.length_map] at ha
    walk_at "w"
    refine ⟨_, _, rfl, ?_⟩
    walk_at "w"
    refine w_lc ?_
    walk_at "w"
    have e2 : ((a : Int) + 1) = ((a + 1 : Nat) : Int) := by omega
    rw [e2, cut_dropD, ← List.map_drop]
    refine lc_list D.str (cs.drop (a + 1)) (by rw [List.length_drop]; omega) (fun dn acc ρ => ∃ p, Pot p ∧ acc.length = dn.length ∧ (∀ u ∈ acc, tyS u ≠ none) ∧ ρ = [.own p, .val (hierD z.c_Hierarchy rows), .val (.lst ((fsts rows).map D.str)), .own (.lst (odds l0)), .val (.lst (cs.map D.str)), .val d, .val (.int a), .un, .un, .un])
      ⟨p4, hp4, rfl, fun u h => (nomatch h), rfl⟩ (fun dn y td acc ρ e h => ?_) fun acc ρ h => ?_
    · obtain ⟨p5, hp5, h4, h5, rfl⟩ := h
      have grow : ∀ u, tyS u ≠ none → ∀ v ∈ acc ++ [u], tyS v ≠ none := fun u hu v hv => by
        rcases List.mem_append.mp hv with hv | hv
        · exact h5 v hv
        · rw [List.mem_singleton.mp hv]; exact hu
      refine ⟨_, rfl, ?_⟩
      walk_at "w"
      refine s_drawN (n := 2) hp5 (by omega) (by omega) fun x p6 _ hp6 => ?_
      walk_at "w"
      refine w_ifB (fun _ => ?_) fun _ => ?_
      · walk_at "w"
        exact ⟨p6, hp6, by simp [h4], grow _ (by simp [tyS]), rfl⟩
      · walk_at "w"
        refine s_drawN (n := 10) hp6 (by omega) (by omega) fun y p7 hy hp7 => ?_
        obtain ⟨u, eu, mu⟩ := pick y hy
        walk_at "w"
        refine w_ixL eu ?_
        exact ⟨p7, hp7, by simp [h4], grow _ (ok u mu).1, rfl⟩
    · obtain ⟨p5, hp5, h4, h5, rfl⟩ := h
      rw [List.length_drop] at h4
      walk_at "w"
      rw [cut_takeD, ← List.map_take]
      refine w_lft (add_lst (by rw [List.length_map, List.length_take]; show _ + 1 ≤ _; omega)) ?_
      walk_at "w"
      refine w_lft (add_lst (by rw [List.length_append, List.length_map, List.length_take]; show _ + 1 + _ ≤ _; omega)) ?_
      walk_at "w"
      obtain ⟨s, hs⟩ := (ok d md).2.2
      refine s_missing (pre := (cs.take a).map D.str) (v := d) (post := acc) hx hr (fun v hv => ?_) (by simp; omega) (by simp) (fun u hu => ?_) (ok d md).2.1 hs ?_
      · rcases List.mem_append.mp hv with hv | hv
        · rcases List.mem_append.mp hv with hv | hv
          · obtain ⟨x, _, rfl⟩ := List.mem_map.mp hv
            simp [tyS]
          · rw [List.mem_singleton.mp hv]; exact (ok d md).1
        · exact h5 v hv
      · obtain ⟨x, hx', rfl⟩ := List.mem_map.mp hu
        exact decide_eq_true (h3 x (List.mem_of_mem_take hx'))
      · walk_at "w"
        refine w_lft hs ?_
        walk_at "w"
        rw [decide_eq_true rfl]
        exact k p5 hp5
theorem s_law {ns : List Int} (hx : PySem.W.exmOne z.K (.ref z.c_NotFound) (.ref z.c_NotFound) = some true) (k : Q (.val (.bl true)) [.un]) : W (F_law z) [.val (.flst (ns.map D.int))] Q E := by
  unfold F_law
  refine w_fn (by rfl) ?_
  walk_at "w"
  obtain ⟨m, hm, em⟩ := cells (ns.map D.int).length 4 (by decide) (by decide)
  rw [em]
  refine w_rng (by omega) ?_
  refine fr_list _ (List.range m) (fun dn ρ => ∃ s1 s2 s3 s4 s5 s6 s7 s8 s9 s10, ρ = [.val (.flst (ns.map D.int)), s1, s2, s3, s4, s5, s6, s7, s8, s9, s10, .un, .un, .un])
    ⟨_, _, _, _, _, _, _, _, _, _, rfl⟩ (fun dn j td ρ e h => ?_) fun ρ h => ?_
  · obtain ⟨s1, s2, s3, s4, s5, s6, s7, s8, s9, s10, rfl⟩ := h
    have hj : j < m := List.mem_range.mp (by rw [e]; simp)
    refine ⟨_, rfl, ?_⟩
    walk_at "w"
    refine s_pot (by omega) fun p hp => ?_
    walk_at "w"
    refine s_kinds (m := 12) hp (by omega) (by omega) fun rows p2 v h0 hr h3 hp2 => ?_
    have hn : ∀ x ∈ fsts rows, Nm x := fun x hx => by
      obtain ⟨r, hr', rfl⟩ := List.mem_map.mp hx
      exact (h3 r hr').2
    have hfl := fsts_len rows
    walk_at "w"
    refine w_lft (mkH_ok (rowsOf_map rows) v (by omega)) ?_
    walk_at "w"
    refine s_ups v (by omega) (fun r hr' => (h3 r hr').1) ?_
    walk_at "w"
    refine w_lc ?_
    walk_at "w"
    refine lc_map rowD (fun r => .str r.1) rows (by omega) (fun r hr' => ⟨_, rfl, ?_⟩) ?_
    · walk_at "w"
      refine w_lft (a := .str r.1) (by rfl) ?_
      exact ⟨rfl, rfl⟩
    · have e5 : (rows.map fun r => D.str r.1) = (fsts rows).map D.str := by unfold fsts; rw [List.map_map]; rfl
      rw [e5]
      walk_at "w"
      refine fr_list D.str (fsts rows) (fun dn ρ => ∃ s7 s9, ρ = [.val (.flst (ns.map D.int)), .val (.int j), .own p2, .val (.lst (rows.map rowD)), .val (hierD z.c_Hierarchy rows), .val (upsD rows), .val (.lst ((fsts rows).map D.str)), s7, s8, s9, s10, .un, .un, .un])
        ⟨_, _, rfl⟩ (fun dn one td ρ e h => ?_) fun ρ h => ?_
      · obtain ⟨s7, s9, rfl⟩ := h
        have h1 : one ∈ fsts rows := by rw [e]; simp
        refine ⟨_, rfl, ?_⟩
        walk_at "w"
        refine w_lc ?_
        walk_at "w"
        refine lc_map D.str (fun o => .lst ((hiN rows [one, o]).map D.str)) (fsts rows) (by omega) (fun o ho => ⟨_, rfl, ?_⟩) ?_
        · walk_at "w"
          refine s_due (cs := [one, o]) v (by omega) hn (by simp) ?_
          exact ⟨rfl, rfl⟩
        · walk_at "w"
          refine w_lc ?_
          walk_at "w"
          refine lc_map D.str (fun o => .lst ((hiN rows [one, o]).map D.str)) (fsts rows) (by omega) (fun o ho => ⟨_, rfl, ?_⟩) ?_
          · walk_at "w"
            refine ⟨hier_obj (by decide +kernel), ?_⟩
            walk_at "w"
            refine ⟨by simp, small_le rfl, ?_⟩
            refine s_hc (by omega) (fun v hv => ?_) (by simp) (fun cs ec hc => ?_) fun pre u post ep _ hu => ?_
            · rcases List.mem_cons.mp hv with rfl | hv
              · simp [tyS]
              · rw [List.mem_singleton.mp hv]; simp [tyS]
            · have : cs = [one, o] := by
                have := congrArg strsD ec
                rw [strsD_map] at this
                exact (Option.some.inj this).symm
              subst this
              exact ⟨rfl, rfl⟩
            · have hm : u ∈ [D.str one, D.str o] := by
                have ep2 : [D.str one, D.str o] = pre ++ u :: post := ep
                rw [ep2]; simp
              have : hasN (fsts rows) u = true := by
                rcases List.mem_cons.mp hm with rfl | hm
                · exact decide_eq_true h1
                · rw [List.mem_singleton.mp hm]; exact decide_eq_true ho
              rw [hu] at this
              cases this
          · have sh : shD (.lst ((fsts rows).map fun o => .lst ((hiN rows [one, o]).map D.str))) = some (.str (PyData.list ((fsts rows).map fun o => .list ((hiN rows [one, o]).map PyData.str))).shown) := by
              refine sh_of (n := (9 * 12 + 1) * (fsts rows).length) (m := 2) ?_ (Fit.lst (fitAll_of _ _ fun o _ => ?_)) (by omega) (by decide)
              · simp only [toPy]
                rw [toPys_map _ (fun o => PyData.list ((hiN rows [one, o]).map PyData.str)) _ fun o _ => by simp only [toPy, toPys_strs, Option.map_some]]
                rfl
              · refine (fit_strs (n := 8) fun x hx => name_sm (hn x (hiN_sub v _ x hx)).1).mono ?_ (by decide)
                have := hiN_len v [one, o]
                omega
            refine w_lft sh ?_
            walk_at "w"
            refine w_lft sh ?_
            walk_at "w"
            refine s_ifB (fun c => absurd c (by simp)) fun _ => ?_
            walk_at "w"
            exact ⟨_, _, rfl⟩
      · obtain ⟨s7, s9, rfl⟩ := h
        walk_at "w"
        refine w_rng (n := 6) (by omega) ?_
        refine fr_list _ (List.range 6) (fun dn ρ => ∃ p s8 s10, Pot p ∧ ρ = [.val (.flst (ns.map D.int)), .val (.int j), .own p, .val (.lst (rows.map rowD)), .val (hierD z.c_Hierarchy rows), .val (upsD rows), .val (.lst ((fsts rows).map D.str)), s7, s8, s9, s10, .un, .un, .un])
          ⟨p2, _, _, hp2, rfl⟩ (fun dn one td ρ e h => ?_) fun ρ h => ?_
        · obtain ⟨p3, s8, s10, hp3, rfl⟩ := h
          refine ⟨_, rfl, ?_⟩
          walk_at "w"
          refine w_lc ?_
          walk_at "w"
          refine s_drawN (n := 6) hp3 (by omega) (by omega) fun x p4 hx6 hp4 => ?_
          walk_at "w"
          have e1 : (1 + (x : Int)) = ((1 + x : Nat) : Int) := by omega
          rw [e1]
          refine w_rng (by omega) ?_
          refine lc_list _ (List.range (1 + x)) (by rw [List.length_range]; omega) (fun dn acc ρ => ∃ p cs, Pot p ∧ acc = cs.map D.str ∧ cs.length = dn.length ∧ (∀ c ∈ cs, c ∈ fsts rows) ∧ ρ = [.val (.flst (ns.map D.int)), .val (.int j), .own p, .val (.lst (rows.map rowD)), .val (hierD z.c_Hierarchy rows), .val (upsD rows), .val (.lst ((fsts rows).map D.str)), s7, .val (.int one), s9, s10, .un, .un, .un])
            ⟨p4, [], hp4, rfl, rfl, fun c h => (nomatch h), rfl⟩ (fun dn y td acc ρ e h => ?_) fun acc ρ h => ?_
          · obtain ⟨p5, cs, hp5, rfl, h2, h4, rfl⟩ := h
            refine ⟨_, rfl, ?_⟩
            walk_at "w"
            refine s_drawN hp5 (by rw [List.length_map]; omega) (by rw [List.length_map]; omega) fun x p6 hx' hp6 => ?_
            walk_at "w"
            rw [List.length_map] at hx'
            refine w_ixL (d := .str (fsts rows)[x]) (by rw [List.getElem?_map, List.getElem?_eq_getElem hx']; rfl) ?_
            refine ⟨p6, cs ++ [(fsts rows)[x]], hp6, by rw [List.map_append]; rfl, by simp [h2], fun c hc => ?_, rfl⟩
            rcases List.mem_append.mp hc with hc | hc
            · exact h4 c hc
            · rw [List.mem_singleton.mp hc]; exact List.getElem_mem _
          · obtain ⟨p5, cs, hp5, rfl, h2, h4, rfl⟩ := h
            rw [List.length_range] at h2
            walk_at "w"
            refine s_row_right hp5 v (by omega) hn h4 (by omega) (by omega) fun p6 hp6 => ?_
            walk_at "w"
            refine w_ifB (fun c => absurd c (by decide)) fun _ => ?_
            walk_at "w"
            refine s_missing_right hx hp6 h0 (by omega) hn fun p7 hp7 => ?_
            walk_at "w"
            refine s_ifB (fun c => absurd c (by decide)) fun _ => ?_
            walk_at "w"
            exact ⟨p7, _, _, hp7, rfl⟩
        · obtain ⟨p3, s8, s10, hp3, rfl⟩ := h
          exact ⟨_, _, _, _, _, _, _, _, _, _, rfl⟩
  · obtain ⟨s1, s2, s3, s4, s5, s6, s7, s8, s9, s10, rfl⟩ := h
    walk_at "w"
    exact k
end
end Fk
/-! From the law's function on trees to the law's promise. -/
namespace Pu
open PySem PySem.Spec PyProof.Rows L2 Kv
def spLaw (K : PySem.W.Frag) : Sp := fun vs H Q _ => ∃ (a : Addr) (ns : List Int), vs = [.ref a] ∧ Only H ∧ SqL K H a (ns.map V.int) ∧ ns.length ≤ 63 ∧ ∀ H', Q (.bl true) H'
theorem ints_rep {K : PySem.W.Frag} {ok : Addr → Prop} {H : Hp} : ∀ ns : List Int, Reps K ok H (ns.map V.int) (ns.map D.int)
  | [] => .nil
  | n :: ns => .cons (.int n) (ints_rep ns)
theorem lawG {P' : Program} {w : World} {K : PySem.W.Frag} {mg : Str → Option Value} {base : Heap} {k : Nat} {f : Addr} {fd : FuncData} {x : Str} {F : P R} (G : FnG P' w K mg base (L2.CX P' w) k f fd [x] (spP K 1 F))
    (h : ∀ ns : List Int, ns.length ≤ 63 → W F [.val (.flst (ns.map D.int))] (fun r _ => r = .val (.bl true)) NX) : FnG P' w K mg base CX0 k f fd [x] (spLaw K) := by
  refine ⟨fun vs H Q E hs => ?_, fun A fr s H ar us vs Q E hg hr e0 hb rv hs => ?_⟩
  · obtain ⟨a, ns, rfl, _⟩ := hs
    rfl
  · obtain ⟨a, ns, rfl, on, sq, hl, q⟩ := hs
    refine codeAny_mono (G.goes A fr s H ar us [.ref a] Q (fun _ _ _ => False) hg hr e0 hb rv ?_) fun r s' hr' => ?_
    · refine ⟨fun _ => True, [.val (.flst (ns.map D.int))], rfl, ?_, ?_⟩
      · have fz : FzL K H a (ns.map V.int) := by
          rcases sq with (h1 | h1) | h1
          · rcases on a with z | ⟨o, xs, z⟩
            · rw [z] at h1; cases h1
            · rw [z] at h1; cases h1
          · exact .inl h1
          · exact .inr h1
        refine ⟨rfl, fun _ _ => trivial, fun _ h => h, fun i d hi => ?_, fun i d hi => ?_, fun i j d e q hi => ?_⟩
        · match i, hi with
          | 0, hi => cases hi; exact ⟨_, rfl, .lstF fz (ints_rep ns)⟩
          | i + 1, hi => cases hi
        · match i, hi with
          | 0, hi => cases hi
          | i + 1, hi => cases hi
        · match i, hi with
          | 0, hi => cases hi
          | i + 1, hi => cases hi
      · have hw := h ns hl
        unfold W at hw
        split at hw
        · exact hw.elim
        · rename_i z
          subst hw
          rw [z]
          intro v H' ok' _ _ r1
          have r1 : Rep K ok' H' v (.bl true) := r1
          cases r1
          exact q H'
        · exact hw.elim
    · unfold CR at hr' ⊢
      cases r with
      | ok fl =>
        cases fl with
        | ret u => exact hr'
        | _ => exact hr'.elim
      | error e =>
        obtain ⟨_, _, _, _, _, _, _, _, _, _, _, _, z⟩ := hr'
        exact z.elim
end Pu
namespace Lw
open PySem PySem.Spec PyProof.Rows L2 Kv Pu Fk
theorem all_mk {l : PySem.W.OpenLaw} {w : World} {K : PySem.W.Frag} {h : Heap} {mg : Str → Option Value} {fa : Addr} (X : K.In h) (G : h.Ns mainGlobals mg) (hfa : mg "law" = some (.ref fa))
    {C_Hierarchy : Addr} (a_Hierarchy : PySem.W.nsIn K mainGlobals "Hierarchy" = some (some (.ref C_Hierarchy)))
     (pg_Hierarchy : PySem.W.plainGet K C_Hierarchy Str.empty = true)
     (hd_Hierarchy : PySem.W.hasDictIn K C_Hierarchy = true)
     (po_Hierarchy : PySem.W.plainOver K C_Hierarchy = true)
     (sa_Hierarchy : PySem.W.findIn K (.ref C_Hierarchy) "__setattr__" = some (some (.builtin "object.__setattr__")))
     (na_Hierarchy_rows : PySem.W.findIn K (.ref C_Hierarchy) "rows" = some none)
     (na_Hierarchy_places : PySem.W.findIn K (.ref C_Hierarchy) "places" = some none)
     (na_Hierarchy_above : PySem.W.findIn K (.ref C_Hierarchy) "above" = some none)
    {h_init : Addr} (m_init : PySem.W.findIn K (.ref C_Hierarchy) "__init__" = some (some (.ref h_init)))
     (i_init : PySem.W.isFn K (.ref h_init) = true)
    {TD T0 : Addr} {oc_init kV_init dc_init pm_init cd_init ct_init : Value} {od_init an_init : Option Addr} {sl_init : Array (Option Value)} (l_init : K.lookup h_init = some ⟨oc_init, od_init, .func (PySem.W.fnOf "__init__" "Hierarchy.__init__" (defArgs Lw.m_init) (defBody Lw.m_init) (defScope Lw.m_init)
      (.ref TD) kV_init dc_init pm_init an_init cd_init ct_init), sl_init⟩)
     (c_init_c : PySem.W.codeIn K cd_init "Hierarchy.__init__" = true)
     (kp_init : PySem.W.keepIn K (.ref h_init) = true)
    {ocT : Value} {odT odU : Option Addr} {nT nU : Nat} {slT slU : Array (Option Value)} {uL : Tok} (lT : K.lookup TD = some ⟨ocT, odT, .seq #[.ref T0] nT, slT⟩)
     (lU : K.lookup T0 = some ⟨.type "tuple", odU, .seq #[] nU, slU⟩)
     (mk : PySem.W.makesIn K C_Hierarchy = true)
     (kc : PySem.W.keepIn K (.ref C_Hierarchy) = true)
     (rd : PySem.W.readsIn K C_Hierarchy (.type "type") = true)
     (ga : PySem.W.specialIn K (.ref C_Hierarchy) "__getattribute__" = some (some (.builtin "type.__getattribute__")))
     (cl : PySem.W.findCls K (.ref C_Hierarchy) (.type "type") "LIMIT" = some (.val (.int 20 uL)))
    {f_is_name : Addr} (a_is_name : PySem.W.nsIn K mainGlobals "is_name" = some (some (.ref f_is_name)))
    {oc_is_name kV_is_name dc_is_name pm_is_name cd_is_name ct_is_name : Value} {od_is_name an_is_name : Option Addr} {sl_is_name : Array (Option Value)} (l_is_name : K.lookup f_is_name = some ⟨oc_is_name, od_is_name, .func (PySem.W.fnOf "is_name" "is_name" (defArgs Lw.sIsName) (defBody Lw.sIsName) (defScope Lw.sIsName)
      .none kV_is_name dc_is_name pm_is_name an_is_name cd_is_name ct_is_name), sl_is_name⟩)
     (c_is_name_c : PySem.W.codeIn K cd_is_name "is_name" = true)
     (kp_is_name : PySem.W.keepIn K (.ref f_is_name) = true)
    {f_are_superclasses : Addr} (a_are_superclasses : PySem.W.nsIn K mainGlobals "are_superclasses" = some (some (.ref f_are_superclasses)))
    {oc_are_superclasses kV_are_superclasses dc_are_superclasses pm_are_superclasses cd_are_superclasses ct_are_superclasses : Value} {od_are_superclasses an_are_superclasses : Option Addr} {sl_are_superclasses : Array (Option Value)} (l_are_superclasses : K.lookup f_are_superclasses = some ⟨oc_are_superclasses, od_are_superclasses, .func (PySem.W.fnOf "are_superclasses" "are_superclasses" (defArgs Lw.sAre) (defBody Lw.sAre) (defScope Lw.sAre)
      .none kV_are_superclasses dc_are_superclasses pm_are_superclasses an_are_superclasses cd_are_superclasses ct_are_superclasses), sl_are_superclasses⟩)
     (c_are_superclasses_c : PySem.W.codeIn K cd_are_superclasses "are_superclasses" = true)
     (kp_are_superclasses : PySem.W.keepIn K (.ref f_are_superclasses) = true)
    {f_row_problem : Addr} (a_row_problem : PySem.W.nsIn K mainGlobals "row_problem" = some (some (.ref f_row_problem)))
    {oc_row_problem kV_row_problem dc_row_problem pm_row_problem cd_row_problem ct_row_problem : Value} {od_row_problem an_row_problem : Option Addr} {sl_row_problem : Array (Option Value)} (l_row_problem : K.lookup f_row_problem = some ⟨oc_row_problem, od_row_problem, .func (PySem.W.fnOf "row_problem" "row_problem" (defArgs Lw.sProb) (defBody Lw.sProb) (defScope Lw.sProb)
      .none kV_row_problem dc_row_problem pm_row_problem an_row_problem cd_row_problem ct_row_problem), sl_row_problem⟩)
     (c_row_problem_c : PySem.W.codeIn K cd_row_problem "row_problem" = true)
     (kp_row_problem : PySem.W.keepIn K (.ref f_row_problem) = true)
    {f_ancestors_of : Addr} (a_ancestors_of : PySem.W.nsIn K mainGlobals "ancestors_of" = some (some (.ref f_ancestors_of)))
    {oc_ancestors_of kV_ancestors_of dc_ancestors_of pm_ancestors_of cd_ancestors_of ct_ancestors_of : Value} {od_ancestors_of an_ancestors_of : Option Addr} {sl_ancestors_of : Array (Option Value)} (l_ancestors_of : K.lookup f_ancestors_of = some ⟨oc_ancestors_of, od_ancestors_of, .func (PySem.W.fnOf "ancestors_of" "ancestors_of" (defArgs Lw.sAnc) (defBody Lw.sAnc) (defScope Lw.sAnc)
      .none kV_ancestors_of dc_ancestors_of pm_ancestors_of an_ancestors_of cd_ancestors_of ct_ancestors_of), sl_ancestors_of⟩)
     (c_ancestors_of_c : PySem.W.codeIn K cd_ancestors_of "ancestors_of" = true)
     (kp_ancestors_of : PySem.W.keepIn K (.ref f_ancestors_of) = true)
    {C_NotFound : Addr} (a_NotFound : PySem.W.nsIn K mainGlobals "NotFound" = some (some (.ref C_NotFound)))
     (xi_NotFound : PySem.W.excInitIn K C_NotFound [.type "LookupError", .type "Exception", .type "BaseException", .type "object"] "LookupError.__new__" = true)
     (xo_NotFound : PySem.W.excOver K C_NotFound [.type "LookupError", .type "Exception", .type "BaseException", .type "object"] = true)
     (xsa_NotFound : PySem.W.findIn K (.ref C_NotFound) "__setattr__" = some (some (.builtin "object.__setattr__")))
     (xhd_NotFound : PySem.W.hasDictIn K C_NotFound = true)
     (xex_NotFound : PySem.W.subIn K (.ref C_NotFound) (.type "BaseException") = some true)
     (xty_NotFound : PySem.W.typeIn K (.ref C_NotFound) = some (.type "type"))
     (xk_NotFound : PySem.W.keepIn K (.ref C_NotFound) = true)
    {f_NotFound_init : Addr} (xin_NotFound : PySem.W.findIn K (.ref C_NotFound) "__init__" = some (some (.ref f_NotFound_init)))
     (xtf_NotFound : PySem.W.typeIn K (.ref f_NotFound_init) = some (.type "function"))
     (nv_NotFound_value : PySem.W.findIn K (.ref C_NotFound) "value" = some none)
    {oc_NotFound_init kV_NotFound_init dc_NotFound_init pm_NotFound_init cd_NotFound_init ct_NotFound_init : Value} {od_NotFound_init an_NotFound_init : Option Addr} {sl_NotFound_init : Array (Option Value)} (l_NotFound_init : K.lookup f_NotFound_init = some ⟨oc_NotFound_init, od_NotFound_init, .func (PySem.W.fnOf "__init__" "NotFound.__init__" (defArgs i_NotFound) (defBody i_NotFound) (defScope i_NotFound)
      .none kV_NotFound_init dc_NotFound_init pm_NotFound_init an_NotFound_init cd_NotFound_init ct_NotFound_init), sl_NotFound_init⟩)
     (c_NotFound_init_c : PySem.W.codeIn K cd_NotFound_init "NotFound.__init__" = true)
     (kp_NotFound_init : PySem.W.keepIn K (.ref f_NotFound_init) = true)
     (xv_LookupError : PySem.W.findCls K (.type "LookupError") (.type "type") "__init__" = some (.val (.builtin "LookupError.__init__")))
     (xga_NotFound : PySem.W.findIn K (.ref C_NotFound) "__getattribute__" = some (some (.builtin "BaseException.__getattribute__")))
     (xgg_NotFound : PySem.W.findIn K (.ref C_NotFound) "__getattr__" = some none)
     (xse_NotFound : PySem.W.subIn K (.ref C_NotFound) (.ref C_NotFound) = some true)
    {f__law_pot : Addr} (a__law_pot : PySem.W.nsIn K mainGlobals "_law_pot" = some (some (.ref f__law_pot)))
    {oc__law_pot kV__law_pot dc__law_pot pm__law_pot cd__law_pot ct__law_pot : Value} {od__law_pot an__law_pot : Option Addr} {sl__law_pot : Array (Option Value)} (l__law_pot : K.lookup f__law_pot = some ⟨oc__law_pot, od__law_pot, .func (PySem.W.fnOf "_law_pot" "_law_pot" (defArgs s__law_pot) (defBody s__law_pot) (defScope s__law_pot)
      .none kV__law_pot dc__law_pot pm__law_pot an__law_pot cd__law_pot ct__law_pot), sl__law_pot⟩)
     (c__law_pot_c : PySem.W.codeIn K cd__law_pot "_law_pot" = true)
     (kp__law_pot : PySem.W.keepIn K (.ref f__law_pot) = true)
    {f__law_draw : Addr} (a__law_draw : PySem.W.nsIn K mainGlobals "_law_draw" = some (some (.ref f__law_draw)))
    {oc__law_draw kV__law_draw dc__law_draw pm__law_draw cd__law_draw ct__law_draw : Value} {od__law_draw an__law_draw : Option Addr} {sl__law_draw : Array (Option Value)} (l__law_draw : K.lookup f__law_draw = some ⟨oc__law_draw, od__law_draw, .func (PySem.W.fnOf "_law_draw" "_law_draw" (defArgs s__law_draw) (defBody s__law_draw) (defScope s__law_draw)
      .none kV__law_draw dc__law_draw pm__law_draw an__law_draw cd__law_draw ct__law_draw), sl__law_draw⟩)
     (c__law_draw_c : PySem.W.codeIn K cd__law_draw "_law_draw" = true)
     (kp__law_draw : PySem.W.keepIn K (.ref f__law_draw) = true)
    {f__law_name : Addr} (a__law_name : PySem.W.nsIn K mainGlobals "_law_name" = some (some (.ref f__law_name)))
    {oc__law_name kV__law_name dc__law_name pm__law_name cd__law_name ct__law_name : Value} {od__law_name an__law_name : Option Addr} {sl__law_name : Array (Option Value)} (l__law_name : K.lookup f__law_name = some ⟨oc__law_name, od__law_name, .func (PySem.W.fnOf "_law_name" "_law_name" (defArgs s__law_name) (defBody s__law_name) (defScope s__law_name)
      .none kV__law_name dc__law_name pm__law_name an__law_name cd__law_name ct__law_name), sl__law_name⟩)
     (c__law_name_c : PySem.W.codeIn K cd__law_name "_law_name" = true)
     (kp__law_name : PySem.W.keepIn K (.ref f__law_name) = true)
    {f__law_names : Addr} (a__law_names : PySem.W.nsIn K mainGlobals "_law_names" = some (some (.ref f__law_names)))
    {oc__law_names kV__law_names dc__law_names pm__law_names cd__law_names ct__law_names : Value} {od__law_names an__law_names : Option Addr} {sl__law_names : Array (Option Value)} (l__law_names : K.lookup f__law_names = some ⟨oc__law_names, od__law_names, .func (PySem.W.fnOf "_law_names" "_law_names" (defArgs s__law_names) (defBody s__law_names) (defScope s__law_names)
      .none kV__law_names dc__law_names pm__law_names an__law_names cd__law_names ct__law_names), sl__law_names⟩)
     (c__law_names_c : PySem.W.codeIn K cd__law_names "_law_names" = true)
     (kp__law_names : PySem.W.keepIn K (.ref f__law_names) = true)
    {f__law_mixed : Addr} (a__law_mixed : PySem.W.nsIn K mainGlobals "_law_mixed" = some (some (.ref f__law_mixed)))
    {oc__law_mixed kV__law_mixed dc__law_mixed pm__law_mixed cd__law_mixed ct__law_mixed : Value} {od__law_mixed an__law_mixed : Option Addr} {sl__law_mixed : Array (Option Value)} (l__law_mixed : K.lookup f__law_mixed = some ⟨oc__law_mixed, od__law_mixed, .func (PySem.W.fnOf "_law_mixed" "_law_mixed" (defArgs s__law_mixed) (defBody s__law_mixed) (defScope s__law_mixed)
      .none kV__law_mixed dc__law_mixed pm__law_mixed an__law_mixed cd__law_mixed ct__law_mixed), sl__law_mixed⟩)
     (c__law_mixed_c : PySem.W.codeIn K cd__law_mixed "_law_mixed" = true)
     (kp__law_mixed : PySem.W.keepIn K (.ref f__law_mixed) = true)
    {f__law_kinds : Addr} (a__law_kinds : PySem.W.nsIn K mainGlobals "_law_kinds" = some (some (.ref f__law_kinds)))
    {oc__law_kinds kV__law_kinds dc__law_kinds pm__law_kinds cd__law_kinds ct__law_kinds : Value} {od__law_kinds an__law_kinds : Option Addr} {sl__law_kinds : Array (Option Value)} (l__law_kinds : K.lookup f__law_kinds = some ⟨oc__law_kinds, od__law_kinds, .func (PySem.W.fnOf "_law_kinds" "_law_kinds" (defArgs s__law_kinds) (defBody s__law_kinds) (defScope s__law_kinds)
      .none kV__law_kinds dc__law_kinds pm__law_kinds an__law_kinds cd__law_kinds ct__law_kinds), sl__law_kinds⟩)
     (c__law_kinds_c : PySem.W.codeIn K cd__law_kinds "_law_kinds" = true)
     (kp__law_kinds : PySem.W.keepIn K (.ref f__law_kinds) = true)
    {f__law_above : Addr} (a__law_above : PySem.W.nsIn K mainGlobals "_law_above" = some (some (.ref f__law_above)))
    {oc__law_above kV__law_above dc__law_above pm__law_above cd__law_above ct__law_above : Value} {od__law_above an__law_above : Option Addr} {sl__law_above : Array (Option Value)} (l__law_above : K.lookup f__law_above = some ⟨oc__law_above, od__law_above, .func (PySem.W.fnOf "_law_above" "_law_above" (defArgs s__law_above) (defBody s__law_above) (defScope s__law_above)
      .none kV__law_above dc__law_above pm__law_above an__law_above cd__law_above ct__law_above), sl__law_above⟩)
     (c__law_above_c : PySem.W.codeIn K cd__law_above "_law_above" = true)
     (kp__law_above : PySem.W.keepIn K (.ref f__law_above) = true)
    {f__law_ups : Addr} (a__law_ups : PySem.W.nsIn K mainGlobals "_law_ups" = some (some (.ref f__law_ups)))
    {oc__law_ups kV__law_ups dc__law_ups pm__law_ups cd__law_ups ct__law_ups : Value} {od__law_ups an__law_ups : Option Addr} {sl__law_ups : Array (Option Value)} (l__law_ups : K.lookup f__law_ups = some ⟨oc__law_ups, od__law_ups, .func (PySem.W.fnOf "_law_ups" "_law_ups" (defArgs s__law_ups) (defBody s__law_ups) (defScope s__law_ups)
      .none kV__law_ups dc__law_ups pm__law_ups an__law_ups cd__law_ups ct__law_ups), sl__law_ups⟩)
     (c__law_ups_c : PySem.W.codeIn K cd__law_ups "_law_ups" = true)
     (kp__law_ups : PySem.W.keepIn K (.ref f__law_ups) = true)
    {f__law_due : Addr} (a__law_due : PySem.W.nsIn K mainGlobals "_law_due" = some (some (.ref f__law_due)))
    {oc__law_due kV__law_due dc__law_due pm__law_due cd__law_due ct__law_due : Value} {od__law_due an__law_due : Option Addr} {sl__law_due : Array (Option Value)} (l__law_due : K.lookup f__law_due = some ⟨oc__law_due, od__law_due, .func (PySem.W.fnOf "_law_due" "_law_due" (defArgs s__law_due) (defBody s__law_due) (defScope s__law_due)
      .none kV__law_due dc__law_due pm__law_due an__law_due cd__law_due ct__law_due), sl__law_due⟩)
     (c__law_due_c : PySem.W.codeIn K cd__law_due "_law_due" = true)
     (kp__law_due : PySem.W.keepIn K (.ref f__law_due) = true)
    {h_Hierarchy_has_class : Addr} (m_Hierarchy_has_class_m : PySem.W.findIn K (.ref C_Hierarchy) "has_class" = some (some (.ref h_Hierarchy_has_class)))
     (i_Hierarchy_has_class : PySem.W.isFn K (.ref h_Hierarchy_has_class) = true)
    {oc_Hierarchy_has_class kV_Hierarchy_has_class dc_Hierarchy_has_class pm_Hierarchy_has_class cd_Hierarchy_has_class ct_Hierarchy_has_class : Value} {od_Hierarchy_has_class an_Hierarchy_has_class : Option Addr} {sl_Hierarchy_has_class : Array (Option Value)} (l_Hierarchy_has_class : K.lookup h_Hierarchy_has_class = some ⟨oc_Hierarchy_has_class, od_Hierarchy_has_class, .func (PySem.W.fnOf "has_class" "Hierarchy.has_class" (defArgs m_Hierarchy_has_class) (defBody m_Hierarchy_has_class) (defScope m_Hierarchy_has_class)
      .none kV_Hierarchy_has_class dc_Hierarchy_has_class pm_Hierarchy_has_class an_Hierarchy_has_class cd_Hierarchy_has_class ct_Hierarchy_has_class), sl_Hierarchy_has_class⟩)
     (c_Hierarchy_has_class_c : PySem.W.codeIn K cd_Hierarchy_has_class "Hierarchy.has_class" = true)
     (kp_Hierarchy_has_class : PySem.W.keepIn K (.ref h_Hierarchy_has_class) = true)
    {h_Hierarchy_require_class : Addr} (m_Hierarchy_require_class_m : PySem.W.findIn K (.ref C_Hierarchy) "require_class" = some (some (.ref h_Hierarchy_require_class)))
     (i_Hierarchy_require_class : PySem.W.isFn K (.ref h_Hierarchy_require_class) = true)
    {oc_Hierarchy_require_class kV_Hierarchy_require_class dc_Hierarchy_require_class pm_Hierarchy_require_class cd_Hierarchy_require_class ct_Hierarchy_require_class : Value} {od_Hierarchy_require_class an_Hierarchy_require_class : Option Addr} {sl_Hierarchy_require_class : Array (Option Value)} (l_Hierarchy_require_class : K.lookup h_Hierarchy_require_class = some ⟨oc_Hierarchy_require_class, od_Hierarchy_require_class, .func (PySem.W.fnOf "require_class" "Hierarchy.require_class" (defArgs m_Hierarchy_require_class) (defBody m_Hierarchy_require_class) (defScope m_Hierarchy_require_class)
      .none kV_Hierarchy_require_class dc_Hierarchy_require_class pm_Hierarchy_require_class an_Hierarchy_require_class cd_Hierarchy_require_class ct_Hierarchy_require_class), sl_Hierarchy_require_class⟩)
     (c_Hierarchy_require_class_c : PySem.W.codeIn K cd_Hierarchy_require_class "Hierarchy.require_class" = true)
     (kp_Hierarchy_require_class : PySem.W.keepIn K (.ref h_Hierarchy_require_class) = true)
    {h_Hierarchy_names : Addr} (m_Hierarchy_names_m : PySem.W.findIn K (.ref C_Hierarchy) "names" = some (some (.ref h_Hierarchy_names)))
     (i_Hierarchy_names : PySem.W.isFn K (.ref h_Hierarchy_names) = true)
    {oc_Hierarchy_names kV_Hierarchy_names dc_Hierarchy_names pm_Hierarchy_names cd_Hierarchy_names ct_Hierarchy_names : Value} {od_Hierarchy_names an_Hierarchy_names : Option Addr} {sl_Hierarchy_names : Array (Option Value)} (l_Hierarchy_names : K.lookup h_Hierarchy_names = some ⟨oc_Hierarchy_names, od_Hierarchy_names, .func (PySem.W.fnOf "names" "Hierarchy.names" (defArgs m_Hierarchy_names) (defBody m_Hierarchy_names) (defScope m_Hierarchy_names)
      .none kV_Hierarchy_names dc_Hierarchy_names pm_Hierarchy_names an_Hierarchy_names cd_Hierarchy_names ct_Hierarchy_names), sl_Hierarchy_names⟩)
     (c_Hierarchy_names_c : PySem.W.codeIn K cd_Hierarchy_names "Hierarchy.names" = true)
     (kp_Hierarchy_names : PySem.W.keepIn K (.ref h_Hierarchy_names) = true)
    {h_Hierarchy_highest_common : Addr} (m_Hierarchy_highest_common_m : PySem.W.findIn K (.ref C_Hierarchy) "highest_common" = some (some (.ref h_Hierarchy_highest_common)))
     (i_Hierarchy_highest_common : PySem.W.isFn K (.ref h_Hierarchy_highest_common) = true)
    {oc_Hierarchy_highest_common kV_Hierarchy_highest_common dc_Hierarchy_highest_common pm_Hierarchy_highest_common cd_Hierarchy_highest_common ct_Hierarchy_highest_common : Value} {od_Hierarchy_highest_common an_Hierarchy_highest_common : Option Addr} {sl_Hierarchy_highest_common : Array (Option Value)} (l_Hierarchy_highest_common : K.lookup h_Hierarchy_highest_common = some ⟨oc_Hierarchy_highest_common, od_Hierarchy_highest_common, .func (PySem.W.fnOf "highest_common" "Hierarchy.highest_common" (defArgs m_Hierarchy_highest_common) (defBody m_Hierarchy_highest_common) (defScope m_Hierarchy_highest_common)
      .none kV_Hierarchy_highest_common dc_Hierarchy_highest_common pm_Hierarchy_highest_common an_Hierarchy_highest_common cd_Hierarchy_highest_common ct_Hierarchy_highest_common), sl_Hierarchy_highest_common⟩)
     (c_Hierarchy_highest_common_c : PySem.W.codeIn K cd_Hierarchy_highest_common "Hierarchy.highest_common" = true)
     (kp_Hierarchy_highest_common : PySem.W.keepIn K (.ref h_Hierarchy_highest_common) = true)
    {f__law_told : Addr} (a__law_told : PySem.W.nsIn K mainGlobals "_law_told" = some (some (.ref f__law_told)))
    {oc__law_told kV__law_told dc__law_told pm__law_told cd__law_told ct__law_told : Value} {od__law_told an__law_told : Option Addr} {sl__law_told : Array (Option Value)} (l__law_told : K.lookup f__law_told = some ⟨oc__law_told, od__law_told, .func (PySem.W.fnOf "_law_told" "_law_told" (defArgs s__law_told) (defBody s__law_told) (defScope s__law_told)
      .none kV__law_told dc__law_told pm__law_told an__law_told cd__law_told ct__law_told), sl__law_told⟩)
     (c__law_told_c : PySem.W.codeIn K cd__law_told "_law_told" = true)
     (kp__law_told : PySem.W.keepIn K (.ref f__law_told) = true)
    {f__law_missing : Addr} (a__law_missing : PySem.W.nsIn K mainGlobals "_law_missing" = some (some (.ref f__law_missing)))
    {oc__law_missing kV__law_missing dc__law_missing pm__law_missing cd__law_missing ct__law_missing : Value} {od__law_missing an__law_missing : Option Addr} {sl__law_missing : Array (Option Value)} (l__law_missing : K.lookup f__law_missing = some ⟨oc__law_missing, od__law_missing, .func (PySem.W.fnOf "_law_missing" "_law_missing" (defArgs s__law_missing) (defBody s__law_missing) (defScope s__law_missing)
      .none kV__law_missing dc__law_missing pm__law_missing an__law_missing cd__law_missing ct__law_missing), sl__law_missing⟩)
     (c__law_missing_c : PySem.W.codeIn K cd__law_missing "_law_missing" = true)
     (kp__law_missing : PySem.W.keepIn K (.ref f__law_missing) = true)
    {f__law_missing_right : Addr} (a__law_missing_right : PySem.W.nsIn K mainGlobals "_law_missing_right" = some (some (.ref f__law_missing_right)))
    {oc__law_missing_right kV__law_missing_right dc__law_missing_right pm__law_missing_right cd__law_missing_right ct__law_missing_right : Value} {od__law_missing_right an__law_missing_right : Option Addr} {sl__law_missing_right : Array (Option Value)} (l__law_missing_right : K.lookup f__law_missing_right = some ⟨oc__law_missing_right, od__law_missing_right, .func (PySem.W.fnOf "_law_missing_right" "_law_missing_right" (defArgs s__law_missing_right) (defBody s__law_missing_right) (defScope s__law_missing_right)
      .none kV__law_missing_right dc__law_missing_right pm__law_missing_right an__law_missing_right cd__law_missing_right ct__law_missing_right), sl__law_missing_right⟩)
     (c__law_missing_right_c : PySem.W.codeIn K cd__law_missing_right "_law_missing_right" = true)
     (kp__law_missing_right : PySem.W.keepIn K (.ref f__law_missing_right) = true)
    {f__law_row_right : Addr} (a__law_row_right : PySem.W.nsIn K mainGlobals "_law_row_right" = some (some (.ref f__law_row_right)))
    {oc__law_row_right kV__law_row_right dc__law_row_right pm__law_row_right cd__law_row_right ct__law_row_right : Value} {od__law_row_right an__law_row_right : Option Addr} {sl__law_row_right : Array (Option Value)} (l__law_row_right : K.lookup f__law_row_right = some ⟨oc__law_row_right, od__law_row_right, .func (PySem.W.fnOf "_law_row_right" "_law_row_right" (defArgs s__law_row_right) (defBody s__law_row_right) (defScope s__law_row_right)
      .none kV__law_row_right dc__law_row_right pm__law_row_right an__law_row_right cd__law_row_right ct__law_row_right), sl__law_row_right⟩)
     (c__law_row_right_c : PySem.W.codeIn K cd__law_row_right "_law_row_right" = true)
     (kp__law_row_right : PySem.W.keepIn K (.ref f__law_row_right) = true)
    {f_law : Addr} (a_law : PySem.W.nsIn K mainGlobals "law" = some (some (.ref f_law)))
    {oc_law kV_law dc_law pm_law cd_law ct_law : Value} {od_law an_law : Option Addr} {sl_law : Array (Option Value)} (l_law : K.lookup f_law = some ⟨oc_law, od_law, .func (PySem.W.fnOf "law" "law" (defArgs s_law) (defBody s_law) (defScope s_law)
      .none kV_law dc_law pm_law an_law cd_law ct_law), sl_law⟩)
     (c_law_c : PySem.W.codeIn K cd_law "law" = true)
     (kp_law : PySem.W.keepIn K (.ref f_law) = true)
     (z_LookupError : PySem.W.nsIn K mainGlobals "LookupError" = some none)
     (z_abs : PySem.W.nsIn K mainGlobals "abs" = some none)
     (z_all : PySem.W.nsIn K mainGlobals "all" = some none)
     (z_any : PySem.W.nsIn K mainGlobals "any" = some none)
     (z_dict : PySem.W.nsIn K mainGlobals "dict" = some none)
     (z_divmod : PySem.W.nsIn K mainGlobals "divmod" = some none)
     (z_enumerate : PySem.W.nsIn K mainGlobals "enumerate" = some none)
     (z_isinstance : PySem.W.nsIn K mainGlobals "isinstance" = some none)
     (z_len : PySem.W.nsIn K mainGlobals "len" = some none)
     (z_list : PySem.W.nsIn K mainGlobals "list" = some none)
     (z_max : PySem.W.nsIn K mainGlobals "max" = some none)
     (z_min : PySem.W.nsIn K mainGlobals "min" = some none)
     (z_range : PySem.W.nsIn K mainGlobals "range" = some none)
     (z_repr : PySem.W.nsIn K mainGlobals "repr" = some none)
     (z_set : PySem.W.nsIn K mainGlobals "set" = some none)
     (z_str : PySem.W.nsIn K mainGlobals "str" = some none)
     (z_tuple : PySem.W.nsIn K mainGlobals "tuple" = some none)
    {ut_LETTERS : Tok} (e_LETTERS : PySem.W.nsIn K mainGlobals "LETTERS" = some (some (.str "abcdefghijklmnopqrstuvwxyz" ut_LETTERS)))
    {ut_LONGEST_NAME : Tok} (e_LONGEST_NAME : PySem.W.nsIn K mainGlobals "LONGEST_NAME" = some (some (.int 8 ut_LONGEST_NAME)))
    : ∃ fd : FuncData, (∀ (s : Shared) (v : Value), BindsTo s fd ⟨[v], []⟩ [("_law_script", v)]) ∧
      ∀ base : Heap, K.In base → base.Ns mainGlobals mg → sysModules < base.objs.size →
        FnG l.prog w K mg base CX0 8 fa fd ["_law_script"] (Pu.spLaw K) := by
  have e := hfa.symm.trans (PySem.W.mg_of X G a_law)
  cases e
  have k_Hierarchy : Cls K C_Hierarchy := ⟨pg_Hierarchy, hd_Hierarchy, po_Hierarchy, sa_Hierarchy⟩
  have g_Hierarchy := PySem.W.mg_of X G a_Hierarchy
  have T : HTxt K mg C_Hierarchy := ⟨k_Hierarchy, na_Hierarchy_rows, na_Hierarchy_places, na_Hierarchy_above, g_Hierarchy, _, _, ⟨rd, ga⟩, ⟨cl, ⟨_, rfl⟩⟩⟩
  obtain ⟨fdI, F_init⟩ : ∃ fdI, FunD K "__init__" "Hierarchy.__init__" (defArgs Lw.m_init) (defBody Lw.m_init) (defScope Lw.m_init) [.ref T0] [] h_init fdI :=
    ⟨_, ⟨_, _, .ref TD, _, _, _, _, _, _, _, rfl, l_init, c_init_c, .inr ⟨by simp, TD, _, [.ref T0], _, rfl, lT, rfl, .cons rfl .nil⟩, .inl rfl⟩, kp_init⟩
  have b_init1 : Binds K fdI ["self", "classes"] [] := by
    obtain ⟨ds, r, b⟩ := F_init.binds1 (ps := ["self", "classes"]) 2 1 (by simp) rfl fun _ _ _ _ _ _ _ us its hu hi =>
      match us, its, hu, hi with | [_, _], [_], _, _ => ⟨_, rfl, rfl⟩
    cases r
    exact b
  have M : Mk K C_Hierarchy h_init := ⟨mk, m_init, i_init, kc⟩
  have U_is_name := fun_mk (st := Lw.sIsName) l_is_name c_is_name_c kp_is_name
  have b_is_name := U_is_name.binds (ps := ["value"]) fun _ _ _ _ _ _ us hl =>
    match us, hl with | [_], _ => rfl
  have g_is_name := PySem.W.mg_of X G a_is_name
  have d_is_name : Def K mg "is_name" Lw.sIsName ["value"] := ⟨_, _, U_is_name, b_is_name, g_is_name⟩
  have U_are_superclasses := fun_mk (st := Lw.sAre) l_are_superclasses c_are_superclasses_c kp_are_superclasses
  have b_are_superclasses := U_are_superclasses.binds (ps := ["value", "known"]) fun _ _ _ _ _ _ us hl =>
    match us, hl with | [_, _], _ => rfl
  have g_are_superclasses := PySem.W.mg_of X G a_are_superclasses
  have d_are_superclasses : Def K mg "are_superclasses" Lw.sAre ["value", "known"] := ⟨_, _, U_are_superclasses, b_are_superclasses, g_are_superclasses⟩
  have U_row_problem := fun_mk (st := Lw.sProb) l_row_problem c_row_problem_c kp_row_problem
  have b_row_problem := U_row_problem.binds (ps := ["row", "known"]) fun _ _ _ _ _ _ us hl =>
    match us, hl with | [_, _], _ => rfl
  have g_row_problem := PySem.W.mg_of X G a_row_problem
  have d_row_problem : Def K mg "row_problem" Lw.sProb ["row", "known"] := ⟨_, _, U_row_problem, b_row_problem, g_row_problem⟩
  have U_ancestors_of := fun_mk (st := Lw.sAnc) l_ancestors_of c_ancestors_of_c kp_ancestors_of
  have b_ancestors_of := U_ancestors_of.binds (ps := ["name", "superclasses", "above"]) fun _ _ _ _ _ _ us hl =>
    match us, hl with | [_, _, _], _ => rfl
  have g_ancestors_of := PySem.W.mg_of X G a_ancestors_of
  have d_ancestors_of : Def K mg "ancestors_of" Lw.sAnc ["name", "superclasses", "above"] := ⟨_, _, U_ancestors_of, b_ancestors_of, g_ancestors_of⟩
  have g_NotFound := PySem.W.mg_of X G a_NotFound
  have O_NotFound : Er.Over K C_NotFound "LookupError" "LookupError.__new__" "LookupError.__init__" [.type "LookupError", .type "Exception", .type "BaseException", .type "object"] := ⟨PySem.F.excBase_LookupError, PySem.F.store_LookupError, xi_NotFound, xo_NotFound, xsa_NotFound, xhd_NotFound, xex_NotFound, xty_NotFound, xk_NotFound⟩
  have U_NotFound_init := fun_mk (st := i_NotFound) l_NotFound_init c_NotFound_init_c kp_NotFound_init
  have b_NotFound_init := U_NotFound_init.binds (ps := ["self", "value"]) fun _ _ _ _ _ _ us hl =>
    match us, hl with | [_, _], _ => rfl
  have xf_NotFound : XfC K C_NotFound := ⟨xga_NotFound, xgg_NotFound, xex_NotFound, xhd_NotFound⟩
  have ex_NotFound := PySem.W.exm_ref xex_NotFound xhd_NotFound xty_NotFound xse_NotFound
  have U__law_pot := fun_mk (st := s__law_pot) l__law_pot c__law_pot_c kp__law_pot
  have b__law_pot := U__law_pot.binds (ps := ["_law_script", "_law_k"]) fun _ _ _ _ _ _ us hl =>
    match us, hl with | [_, _], _ => rfl
  have g__law_pot := PySem.W.mg_of X G a__law_pot
  have d__law_pot : Def K mg "_law_pot" s__law_pot ["_law_script", "_law_k"] := ⟨_, _, U__law_pot, b__law_pot, g__law_pot⟩
  have U__law_draw := fun_mk (st := s__law_draw) l__law_draw c__law_draw_c kp__law_draw
  have b__law_draw := U__law_draw.binds (ps := ["_law_pot_here", "_law_many"]) fun _ _ _ _ _ _ us hl =>
    match us, hl with | [_, _], _ => rfl
  have g__law_draw := PySem.W.mg_of X G a__law_draw
  have d__law_draw : Def K mg "_law_draw" s__law_draw ["_law_pot_here", "_law_many"] := ⟨_, _, U__law_draw, b__law_draw, g__law_draw⟩
  have U__law_name := fun_mk (st := s__law_name) l__law_name c__law_name_c kp__law_name
  have b__law_name := U__law_name.binds (ps := ["_law_pot_here"]) fun _ _ _ _ _ _ us hl =>
    match us, hl with | [_], _ => rfl
  have g__law_name := PySem.W.mg_of X G a__law_name
  have d__law_name : Def K mg "_law_name" s__law_name ["_law_pot_here"] := ⟨_, _, U__law_name, b__law_name, g__law_name⟩
  have U__law_names := fun_mk (st := s__law_names) l__law_names c__law_names_c kp__law_names
  have b__law_names := U__law_names.binds (ps := ["_law_pot_here", "_law_many"]) fun _ _ _ _ _ _ us hl =>
    match us, hl with | [_, _], _ => rfl
  have g__law_names := PySem.W.mg_of X G a__law_names
  have d__law_names : Def K mg "_law_names" s__law_names ["_law_pot_here", "_law_many"] := ⟨_, _, U__law_names, b__law_names, g__law_names⟩
  have U__law_mixed := fun_mk (st := s__law_mixed) l__law_mixed c__law_mixed_c kp__law_mixed
  have b__law_mixed := U__law_mixed.binds (ps := ["_law_pot_here", "_law_some"]) fun _ _ _ _ _ _ us hl =>
    match us, hl with | [_, _], _ => rfl
  have g__law_mixed := PySem.W.mg_of X G a__law_mixed
  have d__law_mixed : Def K mg "_law_mixed" s__law_mixed ["_law_pot_here", "_law_some"] := ⟨_, _, U__law_mixed, b__law_mixed, g__law_mixed⟩
  have U__law_kinds := fun_mk (st := s__law_kinds) l__law_kinds c__law_kinds_c kp__law_kinds
  have b__law_kinds := U__law_kinds.binds (ps := ["_law_pot_here", "_law_most"]) fun _ _ _ _ _ _ us hl =>
    match us, hl with | [_, _], _ => rfl
  have g__law_kinds := PySem.W.mg_of X G a__law_kinds
  have d__law_kinds : Def K mg "_law_kinds" s__law_kinds ["_law_pot_here", "_law_most"] := ⟨_, _, U__law_kinds, b__law_kinds, g__law_kinds⟩
  have U__law_above := fun_mk (st := s__law_above) l__law_above c__law_above_c kp__law_above
  have b__law_above := U__law_above.binds (ps := ["_law_rows", "_law_label"]) fun _ _ _ _ _ _ us hl =>
    match us, hl with | [_, _], _ => rfl
  have g__law_above := PySem.W.mg_of X G a__law_above
  have d__law_above : Def K mg "_law_above" s__law_above ["_law_rows", "_law_label"] := ⟨_, _, U__law_above, b__law_above, g__law_above⟩
  have U__law_ups := fun_mk (st := s__law_ups) l__law_ups c__law_ups_c kp__law_ups
  have b__law_ups := U__law_ups.binds (ps := ["_law_rows"]) fun _ _ _ _ _ _ us hl =>
    match us, hl with | [_], _ => rfl
  have g__law_ups := PySem.W.mg_of X G a__law_ups
  have d__law_ups : Def K mg "_law_ups" s__law_ups ["_law_rows"] := ⟨_, _, U__law_ups, b__law_ups, g__law_ups⟩
  have U__law_due := fun_mk (st := s__law_due) l__law_due c__law_due_c kp__law_due
  have b__law_due := U__law_due.binds (ps := ["_law_ups_here", "_law_some"]) fun _ _ _ _ _ _ us hl =>
    match us, hl with | [_, _], _ => rfl
  have g__law_due := PySem.W.mg_of X G a__law_due
  have d__law_due : Def K mg "_law_due" s__law_due ["_law_ups_here", "_law_some"] := ⟨_, _, U__law_due, b__law_due, g__law_due⟩
  have U_Hierarchy_has_class := fun_mk (st := m_Hierarchy_has_class) l_Hierarchy_has_class c_Hierarchy_has_class_c kp_Hierarchy_has_class
  have b_Hierarchy_has_class := U_Hierarchy_has_class.binds (ps := ["self", "value"]) fun _ _ _ _ _ _ us hl =>
    match us, hl with | [_, _], _ => rfl
  have d_Hierarchy_has_class : DefM K C_Hierarchy "has_class" "Hierarchy.has_class" m_Hierarchy_has_class ["self", "value"] := ⟨_, _, U_Hierarchy_has_class, b_Hierarchy_has_class, ⟨m_Hierarchy_has_class_m, i_Hierarchy_has_class, kp_Hierarchy_has_class⟩, k_Hierarchy⟩
  have U_Hierarchy_require_class := fun_mk (st := m_Hierarchy_require_class) l_Hierarchy_require_class c_Hierarchy_require_class_c kp_Hierarchy_require_class
  have b_Hierarchy_require_class := U_Hierarchy_require_class.binds (ps := ["self", "value"]) fun _ _ _ _ _ _ us hl =>
    match us, hl with | [_, _], _ => rfl
  have d_Hierarchy_require_class : DefM K C_Hierarchy "require_class" "Hierarchy.require_class" m_Hierarchy_require_class ["self", "value"] := ⟨_, _, U_Hierarchy_require_class, b_Hierarchy_require_class, ⟨m_Hierarchy_require_class_m, i_Hierarchy_require_class, kp_Hierarchy_require_class⟩, k_Hierarchy⟩
  have U_Hierarchy_names := fun_mk (st := m_Hierarchy_names) l_Hierarchy_names c_Hierarchy_names_c kp_Hierarchy_names
  have b_Hierarchy_names := U_Hierarchy_names.binds (ps := ["self"]) fun _ _ _ _ _ _ us hl =>
    match us, hl with | [_], _ => rfl
  have d_Hierarchy_names : DefM K C_Hierarchy "names" "Hierarchy.names" m_Hierarchy_names ["self"] := ⟨_, _, U_Hierarchy_names, b_Hierarchy_names, ⟨m_Hierarchy_names_m, i_Hierarchy_names, kp_Hierarchy_names⟩, k_Hierarchy⟩
  have U_Hierarchy_highest_common := fun_mk (st := m_Hierarchy_highest_common) l_Hierarchy_highest_common c_Hierarchy_highest_common_c kp_Hierarchy_highest_common
  have d_Hierarchy_highest_common : DefS K C_Hierarchy "highest_common" "Hierarchy.highest_common" m_Hierarchy_highest_common ["self", "first"] "others" := ⟨_, _, U_Hierarchy_highest_common, ⟨m_Hierarchy_highest_common_m, i_Hierarchy_highest_common, kp_Hierarchy_highest_common⟩, k_Hierarchy, StX.bind_star2 (B := fun us => bindArgs _ ⟨us, []⟩) (fun _ _ => rfl) (fun _ _ _ _ => rfl)⟩
  have U__law_told := fun_mk (st := s__law_told) l__law_told c__law_told_c kp__law_told
  have b__law_told := U__law_told.binds (ps := ["_law_box", "_law_some"]) fun _ _ _ _ _ _ us hl =>
    match us, hl with | [_, _], _ => rfl
  have g__law_told := PySem.W.mg_of X G a__law_told
  have d__law_told : Def K mg "_law_told" s__law_told ["_law_box", "_law_some"] := ⟨_, _, U__law_told, b__law_told, g__law_told⟩
  have U__law_missing := fun_mk (st := s__law_missing) l__law_missing c__law_missing_c kp__law_missing
  have b__law_missing := U__law_missing.binds (ps := ["_law_box", "_law_some"]) fun _ _ _ _ _ _ us hl =>
    match us, hl with | [_, _], _ => rfl
  have g__law_missing := PySem.W.mg_of X G a__law_missing
  have d__law_missing : Def K mg "_law_missing" s__law_missing ["_law_box", "_law_some"] := ⟨_, _, U__law_missing, b__law_missing, g__law_missing⟩
  have U__law_missing_right := fun_mk (st := s__law_missing_right) l__law_missing_right c__law_missing_right_c kp__law_missing_right
  have b__law_missing_right := U__law_missing_right.binds (ps := ["_law_pot_here", "_law_box", "_law_labels"]) fun _ _ _ _ _ _ us hl =>
    match us, hl with | [_, _, _], _ => rfl
  have g__law_missing_right := PySem.W.mg_of X G a__law_missing_right
  have d__law_missing_right : Def K mg "_law_missing_right" s__law_missing_right ["_law_pot_here", "_law_box", "_law_labels"] := ⟨_, _, U__law_missing_right, b__law_missing_right, g__law_missing_right⟩
  have U__law_row_right := fun_mk (st := s__law_row_right) l__law_row_right c__law_row_right_c kp__law_row_right
  have b__law_row_right := U__law_row_right.binds (ps := ["_law_pot_here", "_law_box", "_law_ups_here", "_law_some"]) fun _ _ _ _ _ _ us hl =>
    match us, hl with | [_, _, _, _], _ => rfl
  have g__law_row_right := PySem.W.mg_of X G a__law_row_right
  have d__law_row_right : Def K mg "_law_row_right" s__law_row_right ["_law_pot_here", "_law_box", "_law_ups_here", "_law_some"] := ⟨_, _, U__law_row_right, b__law_row_right, g__law_row_right⟩
  have U_law := fun_mk (st := s_law) l_law c_law_c kp_law
  have n_LookupError := PySem.W.mg_none_of X G z_LookupError
  have n_abs := PySem.W.mg_none_of X G z_abs
  have n_all := PySem.W.mg_none_of X G z_all
  have n_any := PySem.W.mg_none_of X G z_any
  have n_dict := PySem.W.mg_none_of X G z_dict
  have n_divmod := PySem.W.mg_none_of X G z_divmod
  have n_enumerate := PySem.W.mg_none_of X G z_enumerate
  have n_isinstance := PySem.W.mg_none_of X G z_isinstance
  have n_len := PySem.W.mg_none_of X G z_len
  have n_list := PySem.W.mg_none_of X G z_list
  have n_max := PySem.W.mg_none_of X G z_max
  have n_min := PySem.W.mg_none_of X G z_min
  have n_range := PySem.W.mg_none_of X G z_range
  have n_repr := PySem.W.mg_none_of X G z_repr
  have n_set := PySem.W.mg_none_of X G z_set
  have n_str := PySem.W.mg_none_of X G z_str
  have n_tuple := PySem.W.mg_none_of X G z_tuple
  have g_LETTERS := PySem.W.mg_of X G e_LETTERS
  have g_LONGEST_NAME := PySem.W.mg_of X G e_LONGEST_NAME
  refine ⟨PySem.W.fnOf "law" "law" (defArgs s_law) (defBody s_law) (defScope s_law)
      .none kV_law dc_law pm_law an_law cd_law ct_law, fun s v => ?_, fun base _ _ low => ?_⟩
  · exact .of_eq rfl
  · have GA := Lw.ok_are (P := l.prog) (w := w) (base := base) (k := 0) U_are_superclasses n_isinstance n_tuple n_str n_all n_len n_set
    have GIN := Lw.ok_isname (P := l.prog) (w := w) (base := base) (k := 0) U_is_name n_isinstance n_str n_len n_all g_LETTERS g_LONGEST_NAME
    have GPr := Lw.ok_prob (P := l.prog) (w := w) (base := base) (k := 0) U_row_problem U_is_name b_is_name g_is_name U_are_superclasses b_are_superclasses g_are_superclasses GIN GA n_isinstance n_tuple n_len
    have GAn := Lw.ok_anc (P := l.prog) (w := w) (mg := mg) (base := base) (k := 0) U_ancestors_of
    have GI := Lw.ok_init (P := l.prog) (w := w) (base := base) (k := 0) F_init T U_row_problem b_row_problem g_row_problem U_ancestors_of b_ancestors_of g_ancestors_of GPr GAn n_isinstance n_tuple n_list n_enumerate n_len
    have mkHier : Lw.MkHi l.prog w K mg base C_Hierarchy 3 := ⟨_, _, M, GI, g_Hierarchy, b_init1⟩
    have r_NotFound : RsC l.prog w K mg base 1 "NotFound" C_NotFound ["value"] (fun _ => true) := ⟨_, _, ["self", "value"], fun _ _ => True, ⟨_, _, _, _, O_NotFound⟩, xin_NotFound, xtf_NotFound, ok_NotFound (k := 0) U_NotFound_init O_NotFound n_LookupError xv_LookupError nv_NotFound_value, b_NotFound_init, g_NotFound, rfl, by decide, fun _ _ _ _ _ _ _ _ _ => trivial⟩
    have c__law_pot := t__law_pot (P' := l.prog) (w := w) (mg := mg) (base := base) (z := { K := K, c_Hierarchy := C_Hierarchy, c_NotFound := C_NotFound }) (d := d__law_pot) (n_len := n_len) (n_abs := n_abs) (n_max := n_max)
    have c__law_draw := t__law_draw (P' := l.prog) (w := w) (mg := mg) (base := base) (z := { K := K, c_Hierarchy := C_Hierarchy, c_NotFound := C_NotFound }) (d := d__law_draw) (n_divmod := n_divmod)
    have c__law_name := t__law_name (P' := l.prog) (w := w) (mg := mg) (base := base) (z := { K := K, c_Hierarchy := C_Hierarchy, c_NotFound := C_NotFound }) (d := d__law_name) (c__law_draw := c__law_draw) (n_range := n_range)
    have c__law_names := t__law_names (P' := l.prog) (w := w) (mg := mg) (base := base) (z := { K := K, c_Hierarchy := C_Hierarchy, c_NotFound := C_NotFound }) (d := d__law_names) (n_range := n_range) (c__law_name := c__law_name)
    have c__law_mixed := t__law_mixed (P' := l.prog) (w := w) (mg := mg) (base := base) (z := { K := K, c_Hierarchy := C_Hierarchy, c_NotFound := C_NotFound }) (d := d__law_mixed) (n_list := n_list) (n_len := n_len) (n_range := n_range) (c__law_draw := c__law_draw)
    have c__law_kinds := t__law_kinds (P' := l.prog) (w := w) (mg := mg) (base := base) (z := { K := K, c_Hierarchy := C_Hierarchy, c_NotFound := C_NotFound }) (d := d__law_kinds) (c__law_names := c__law_names) (c__law_draw := c__law_draw) (c__law_mixed := c__law_mixed) (n_tuple := n_tuple)
    have c__law_above := t__law_above (P' := l.prog) (w := w) (mg := mg) (base := base) (z := { K := K, c_Hierarchy := C_Hierarchy, c_NotFound := C_NotFound }) (d := d__law_above) 
    have c__law_ups := t__law_ups (P' := l.prog) (w := w) (mg := mg) (base := base) (z := { K := K, c_Hierarchy := C_Hierarchy, c_NotFound := C_NotFound }) (d := d__law_ups) (c__law_above := c__law_above) (n_dict := n_dict)
    have c__law_due := t__law_due (P' := l.prog) (w := w) (mg := mg) (base := base) (z := { K := K, c_Hierarchy := C_Hierarchy, c_NotFound := C_NotFound }) (d := d__law_due) (n_all := n_all)
    have c_Hierarchy_has_class := t_Hierarchy_has_class (P' := l.prog) (w := w) (mg := mg) (base := base) (z := { K := K, c_Hierarchy := C_Hierarchy, c_NotFound := C_NotFound }) (d := d_Hierarchy_has_class) (k_Hierarchy := k_Hierarchy) (na_Hierarchy_places := na_Hierarchy_places) (n_isinstance := n_isinstance) (n_str := n_str)
    have c_Hierarchy_require_class := t_Hierarchy_require_class (P' := l.prog) (w := w) (mg := mg) (base := base) (z := { K := K, c_Hierarchy := C_Hierarchy, c_NotFound := C_NotFound }) (d := d_Hierarchy_require_class) (c_Hierarchy_has_class := c_Hierarchy_has_class) (r_NotFound := r_NotFound)
    have c_Hierarchy_names := t_Hierarchy_names (P' := l.prog) (w := w) (mg := mg) (base := base) (z := { K := K, c_Hierarchy := C_Hierarchy, c_NotFound := C_NotFound }) (d := d_Hierarchy_names) (k_Hierarchy := k_Hierarchy) (na_Hierarchy_places := na_Hierarchy_places) (n_list := n_list)
    have c_Hierarchy_highest_common := t_Hierarchy_highest_common (P' := l.prog) (w := w) (mg := mg) (base := base) (z := { K := K, c_Hierarchy := C_Hierarchy, c_NotFound := C_NotFound }) (d := d_Hierarchy_highest_common) (c_Hierarchy_require_class := c_Hierarchy_require_class) (c_Hierarchy_names := c_Hierarchy_names) (k_Hierarchy := k_Hierarchy) (na_Hierarchy_above := na_Hierarchy_above) (n_all := n_all) (n_any := n_any)
    have c__law_told := t__law_told (P' := l.prog) (w := w) (mg := mg) (base := base) (z := { K := K, c_Hierarchy := C_Hierarchy, c_NotFound := C_NotFound }) (d := d__law_told) (n_len := n_len) (c_Hierarchy_highest_common := c_Hierarchy_highest_common)
    have c__law_missing := t__law_missing (P' := l.prog) (w := w) (mg := mg) (base := base) (z := { K := K, c_Hierarchy := C_Hierarchy, c_NotFound := C_NotFound }) (d := d__law_missing) (c__law_told := c__law_told) (xf_NotFound := xf_NotFound) (nv_NotFound_value := nv_NotFound_value) (n_repr := n_repr) (g_NotFound := g_NotFound)
    have c__law_missing_right := t__law_missing_right (P' := l.prog) (w := w) (mg := mg) (base := base) (z := { K := K, c_Hierarchy := C_Hierarchy, c_NotFound := C_NotFound }) (d := d__law_missing_right) (c__law_draw := c__law_draw) (n_range := n_range) (n_len := n_len) (c__law_missing := c__law_missing) (n_repr := n_repr)
    have c__law_row_right := t__law_row_right (P' := l.prog) (w := w) (mg := mg) (base := base) (z := { K := K, c_Hierarchy := C_Hierarchy, c_NotFound := C_NotFound }) (d := d__law_row_right) (c__law_due := c__law_due) (n_repr := n_repr) (c__law_told := c__law_told) (c__law_mixed := c__law_mixed)
    exact lawG (tl_law (P' := l.prog) (w := w) (base := base) (z := { K := K, c_Hierarchy := C_Hierarchy, c_NotFound := C_NotFound }) U_law (n_len := n_len) (n_min := n_min) (n_max := n_max) (n_range := n_range) (c__law_pot := c__law_pot) (c__law_kinds := c__law_kinds) (c__law_ups := c__law_ups) (mkHier := mkHier) (c__law_due := c__law_due) (c_Hierarchy_highest_common := c_Hierarchy_highest_common) (n_repr := n_repr) (c__law_draw := c__law_draw) (c__law_missing_right := c__law_missing_right) (c__law_row_right := c__law_row_right)) (fun ns hl => Fk.s_law ex_NotFound rfl)
end Lw
open PySem PySem.W PyProof.Rows
set_option maxHeartbeats 0 in
theorem PySem.Challenge.cw_fewestmethods_k15_whole_highest_common_s_holds : PySem.Challenge.rw_fewestmethods_k15_whole_highest_common_s.Holds := by
  w_on; o_law; k_head; (case hw => w_witness2)
  k_fill
  refine Kv.walk_ofG (l := PySem.Challenge.rw_fewestmethods_k15_whole_highest_common_s) (n := 63) (k := 8) (x := "_law_script") (sp := fun w => Pu.spLaw _)
    rfl (by decide) rfl ⟨rfl, by decide, by decide⟩ (fun w h Y => PySem.W.kIn_of Y) ?F
    (fun _ _ a ns hl _ hO hS => ⟨a, ns, rfl, hO, hS, hl, fun _ => rfl⟩)
  case F =>
    intro w mg fa h KX G hmg
    refine' Lw.all_mk KX G hmg
      ?a_Hierarchy ?pg_Hierarchy ?hd_Hierarchy ?po_Hierarchy ?sa_Hierarchy ?na_Hierarchy_rows ?na_Hierarchy_places ?na_Hierarchy_above ?m_init ?i_init ?l_init ?c_init_c
      ?kp_init ?lT ?lU ?mk ?kc ?rd ?ga ?cl ?a_is_name ?l_is_name ?c_is_name_c ?kp_is_name
      ?a_are_superclasses ?l_are_superclasses ?c_are_superclasses_c ?kp_are_superclasses ?a_row_problem ?l_row_problem ?c_row_problem_c ?kp_row_problem ?a_ancestors_of ?l_ancestors_of ?c_ancestors_of_c ?kp_ancestors_of
      ?a_NotFound ?xi_NotFound ?xo_NotFound ?xsa_NotFound ?xhd_NotFound ?xex_NotFound ?xty_NotFound ?xk_NotFound ?xin_NotFound ?xtf_NotFound ?nv_NotFound_value ?l_NotFound_init
      ?c_NotFound_init_c ?kp_NotFound_init ?xv_LookupError ?xga_NotFound ?xgg_NotFound ?xse_NotFound ?a__law_pot ?l__law_pot ?c__law_pot_c ?kp__law_pot ?a__law_draw ?l__law_draw
      ?c__law_draw_c ?kp__law_draw ?a__law_name ?l__law_name ?c__law_name_c ?kp__law_name ?a__law_names ?l__law_names ?c__law_names_c ?kp__law_names ?a__law_mixed ?l__law_mixed
      ?c__law_mixed_c ?kp__law_mixed ?a__law_kinds ?l__law_kinds ?c__law_kinds_c ?kp__law_kinds ?a__law_above ?l__law_above ?c__law_above_c ?kp__law_above ?a__law_ups ?l__law_ups
      ?c__law_ups_c ?kp__law_ups ?a__law_due ?l__law_due ?c__law_due_c ?kp__law_due ?m_Hierarchy_has_class_m ?i_Hierarchy_has_class ?l_Hierarchy_has_class ?c_Hierarchy_has_class_c ?kp_Hierarchy_has_class ?m_Hierarchy_require_class_m
      ?i_Hierarchy_require_class ?l_Hierarchy_require_class ?c_Hierarchy_require_class_c ?kp_Hierarchy_require_class ?m_Hierarchy_names_m ?i_Hierarchy_names ?l_Hierarchy_names ?c_Hierarchy_names_c ?kp_Hierarchy_names ?m_Hierarchy_highest_common_m ?i_Hierarchy_highest_common ?l_Hierarchy_highest_common
      ?c_Hierarchy_highest_common_c ?kp_Hierarchy_highest_common ?a__law_told ?l__law_told ?c__law_told_c ?kp__law_told ?a__law_missing ?l__law_missing ?c__law_missing_c ?kp__law_missing ?a__law_missing_right ?l__law_missing_right
      ?c__law_missing_right_c ?kp__law_missing_right ?a__law_row_right ?l__law_row_right ?c__law_row_right_c ?kp__law_row_right ?a_law ?l_law ?c_law_c ?kp_law ?z_LookupError ?z_abs
      ?z_all ?z_any ?z_dict ?z_divmod ?z_enumerate ?z_isinstance ?z_len ?z_list ?z_max ?z_min ?z_range ?z_repr
      ?z_set ?z_str ?z_tuple ?e_LETTERS ?e_LONGEST_NAME
    (case a_Hierarchy => k_is); (case pg_Hierarchy => k_is); (case hd_Hierarchy => k_is); (case po_Hierarchy => k_is)
    (case sa_Hierarchy => k_is); (case na_Hierarchy_rows => k_is); (case na_Hierarchy_places => k_is); (case na_Hierarchy_above => k_is)
    (case m_init => k_is); (case i_init => k_is); (case l_init => k_is); (case c_init_c => k_is)
    (case kp_init => k_is); (case lT => k_is); (case lU => k_is); (case mk => k_is)
    (case kc => k_is); (case rd => k_is); (case ga => k_is); (case cl => k_is)
    (case a_is_name => k_is); (case l_is_name => k_is); (case c_is_name_c => k_is); (case kp_is_name => k_is)
    (case a_are_superclasses => k_is); (case l_are_superclasses => k_is); (case c_are_superclasses_c => k_is); (case kp_are_superclasses => k_is)
    (case a_row_problem => k_is); (case l_row_problem => k_is); (case c_row_problem_c => k_is); (case kp_row_problem => k_is)
    (case a_ancestors_of => k_is); (case l_ancestors_of => k_is); (case c_ancestors_of_c => k_is); (case kp_ancestors_of => k_is)
    (case a_NotFound => k_is); (case xi_NotFound => kx_is); (case xo_NotFound => kx_is); (case xsa_NotFound => k_is)
    (case xhd_NotFound => k_is); (case xex_NotFound => k_is); (case xty_NotFound => k_is); (case xk_NotFound => k_is)
    (case xin_NotFound => k_is); (case xtf_NotFound => k_is); (case nv_NotFound_value => k_is); (case l_NotFound_init => k_is)
    (case c_NotFound_init_c => k_is); (case kp_NotFound_init => k_is); (case xv_LookupError => k_is); (case xga_NotFound => k_is)
    (case xgg_NotFound => k_is); (case xse_NotFound => k_is); (case a__law_pot => k_is); (case l__law_pot => k_is)
    (case c__law_pot_c => k_is); (case kp__law_pot => k_is); (case a__law_draw => k_is); (case l__law_draw => k_is)
    (case c__law_draw_c => k_is); (case kp__law_draw => k_is); (case a__law_name => k_is); (case l__law_name => k_is)
    (case c__law_name_c => k_is); (case kp__law_name => k_is); (case a__law_names => k_is); (case l__law_names => k_is)
    (case c__law_names_c => k_is); (case kp__law_names => k_is); (case a__law_mixed => k_is); (case l__law_mixed => k_is)
    (case c__law_mixed_c => k_is); (case kp__law_mixed => k_is); (case a__law_kinds => k_is); (case l__law_kinds => k_is)
    (case c__law_kinds_c => k_is); (case kp__law_kinds => k_is); (case a__law_above => k_is); (case l__law_above => k_is)
    (case c__law_above_c => k_is); (case kp__law_above => k_is); (case a__law_ups => k_is); (case l__law_ups => k_is)
    (case c__law_ups_c => k_is); (case kp__law_ups => k_is); (case a__law_due => k_is); (case l__law_due => k_is)
    (case c__law_due_c => k_is); (case kp__law_due => k_is); (case m_Hierarchy_has_class_m => k_is); (case i_Hierarchy_has_class => k_is)
    (case l_Hierarchy_has_class => k_is); (case c_Hierarchy_has_class_c => k_is); (case kp_Hierarchy_has_class => k_is); (case m_Hierarchy_require_class_m => k_is)
    (case i_Hierarchy_require_class => k_is); (case l_Hierarchy_require_class => k_is); (case c_Hierarchy_require_class_c => k_is); (case kp_Hierarchy_require_class => k_is)
    (case m_Hierarchy_names_m => k_is); (case i_Hierarchy_names => k_is); (case l_Hierarchy_names => k_is); (case c_Hierarchy_names_c => k_is)
    (case kp_Hierarchy_names => k_is); (case m_Hierarchy_highest_common_m => k_is); (case i_Hierarchy_highest_common => k_is); (case l_Hierarchy_highest_common => k_is)
    (case c_Hierarchy_highest_common_c => k_is); (case kp_Hierarchy_highest_common => k_is); (case a__law_told => k_is); (case l__law_told => k_is)
    (case c__law_told_c => k_is); (case kp__law_told => k_is); (case a__law_missing => k_is); (case l__law_missing => k_is)
    (case c__law_missing_c => k_is); (case kp__law_missing => k_is); (case a__law_missing_right => k_is); (case l__law_missing_right => k_is)
    (case c__law_missing_right_c => k_is); (case kp__law_missing_right => k_is); (case a__law_row_right => k_is); (case l__law_row_right => k_is)
    (case c__law_row_right_c => k_is); (case kp__law_row_right => k_is); (case a_law => k_is); (case l_law => k_is)
    (case c_law_c => k_is); (case kp_law => k_is); (case z_LookupError => k_is); (case z_abs => k_is)
    (case z_all => k_is); (case z_any => k_is); (case z_dict => k_is); (case z_divmod => k_is)
    (case z_enumerate => k_is); (case z_isinstance => k_is); (case z_len => k_is); (case z_list => k_is)
    (case z_max => k_is); (case z_min => k_is); (case z_range => k_is); (case z_repr => k_is)
    (case z_set => k_is); (case z_str => k_is); (case z_tuple => k_is); (case e_LETTERS => k_is)
    (case e_LONGEST_NAME => k_is)
