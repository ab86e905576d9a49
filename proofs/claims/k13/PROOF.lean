import PyProof.Rows.All
import Wide.All
import OpenK.AllK
import Wide.FinOn
import HandS.ForMost
import HandS.IsInst
import HandS.WideBits
import PyProof.ReprRoads
import HandS.EndBits
import HandS.Walk
import PyProof.ReprLen
import HandS.Strs
import KE.GoesMore
import HandS.ClsMeth
import HandS.Defaults
import HandS.ExcInit
import HandS.Deep
import HandS.Style
import PyProof.EqKinds
import HandS.CallSlots
import HandS.ExcIs
import HandS.ExcField
import HandS.WordsExc
import HandS.FStr
import KE.KExcIs
import HandS.Conv
import PySem.Challenge.RW_fewestmethods_k13_first_invalid_class
set_option Elab.async false
set_option linter.all false
set_option maxRecDepth 100000
set_option maxHeartbeats 4000000
/-! Defs that show values with repr: the promise of a def that is called while no repr is under way. -/
namespace Kv
open PySem PySem.Spec PyProof.Rows L2
/-- as FnOk, for calls with no repr under way -/
structure FnG (P : Program) (w : World) (K : PySem.W.Frag) (mg : Str → Option Value)
    (base : Heap) (CX : CXT) (k : Nat) (f : Addr) (fd : FuncData) (ps : List Str) (sp : Sp) : Prop where
  many : ∀ vs H Q E, sp vs H Q E → vs.length = ps.length
  goes : ∀ (A : Around) (fr : List Env) (s : Shared) (H : Hp) (ar : Args)
    (us : List Value) (vs : List V) (Q : VK) (E : XK), A.guards = some [] → Room k A →
    Env0 P w K mg base A fr s H → BindsTo s fd ar (ps.zip us) → Vals vs us → sp vs H Q E →
    codeAny (model P w) A (.call (.ref f) ar) (CR CX fr P w H s Q E) s
theorem FnG.of {P : Program} {w : World} {K : PySem.W.Frag} {mg : Str → Option Value}
    {base : Heap} {CX : CXT} {k : Nat} {f : Addr} {fd : FuncData} {ps : List Str} {sp : Sp}
    (F : FnOk P w K mg base CX k f fd ps sp) : FnG P w K mg base CX k f fd ps sp :=
  ⟨F.len, fun A fr s H ar us vs Q E _ => F.run A fr s H ar us vs Q E⟩
section
variable {P : Program} {w : World} {K : PySem.W.Frag} {mg : Str → Option Value} {base : Heap}
/-- a def's promise by its body, where no repr is under way at the call -/
theorem okG {x qual : Str} {st : Stmt} {f : Addr} {fd : FuncData} {N ps : List Str} {k : Nat} {sp : Sp}
    (F : Fun K x qual st f fd) (S : FnScope N ps (defScope st))
    (many : ∀ vs H Q E, sp vs H Q E → vs.length = ps.length)
    (hb : ∀ (cdv : Value) (A : Around) (fr : List Env) (s : Shared) (H : Hp) (vs : List V) (Q : VK) (E : XK),
      A.guards = some [] →
      Room k (A.deeper (envOfC qual (defScope st) s.heap.objs.size f cdv)) → sp vs H Q E →
      ∃ t, PSs (cxOf CX0 P w K mg base N qual (defScope st) f cdv A fr s H E).nox (defBody st) t ∧
        t { nx := fun _ H' => Q .non H', rt := Q } (start N vs) H) :
    FnG P w K mg base CX0 (k + 1) f fd ps sp := by
  obtain ⟨oc, od, kV, doc, pm, an, cdv, ct, osl, rfl, lk, hcd⟩ := F.ex
  refine ⟨many, ?_⟩
  intro A fr s H ar us vs Q E hg hr e0 hbd rv hsp
  have kin : K.In s.heap :=
    e0.mod.kin.keeps fun b o e => (e0.bs b o e).1
  have nol : s.heap.NoLimit :=
    e0.mod.nolimit.keeps fun b o e => (e0.bs b o e).1
  refine codeAny_call_function hr.depth (kin _ _ lk) rfl S.co S.gen rfl
    (PySem.W.codeRec_of kin hcd) (hbd _ _ _ _ ?_)
  refine wpAny_newFunctionEnv_cells S.kind (fun y hy => ?_) fun env he s1 ic => ?_
  · obtain ⟨n, v⟩ := y
    rcases S.par n (List.of_mem_zip hy).1 with q | q
    · exact Or.inl q
    · exact Or.inr ⟨q, PySem.W.cellsFrom_some _ _ _ (Or.inl q)⟩
  · subst he
    refine ⟨nol.keeps ic.toInCall.keep, codeAny_func ?_⟩
    obtain ⟨t, ht, hq⟩ := hb cdv A fr s H vs Q E hg (hr.deeper _) hsp
    have I : Inv (cxOf CX0 P w K mg base N qual (defScope st) f cdv A fr s H E) [] (start N vs) H s1 :=
      inv_start S hr.hd e0 (many _ _ _ _ hsp) rv ic
    refine wpAny_mono (ht.nox.run [] s1 (start N vs) H _ I hq) (fun fl s2 hs => ?_) (fun e s2 hs => hs)
    cases fl with
    | brk => exact hs.elim fun _ h => h.elim fun _ h => h.2.elim
    | cont => exact hs.elim fun _ h => h.elim fun _ h => h.2.elim
    | ret u =>
      obtain ⟨v, σ2, H2, J, r2, q2⟩ := hs
      exact ⟨v, H2, J.os, J.bare, J.base, J.hok, r2, q2⟩
    | next =>
      obtain ⟨σ2, H2, J, q2⟩ := hs
      exact ⟨V.non, H2, J.os, J.bare, J.base, J.hok, rfl, q2⟩
end
section
variable {X : Cx} {CX : CXT} {k : Nat} {f : Addr} {fd : FuncData} {ps : List Str} {sp : Sp}
  {dvs : List V} {ds : List Value} {E : XK} {x : Str} {p pos : Pos} {e : Expr} {es : List Expr} {t : TA}
theorem runG {pins : List (Addr × Obj)} {σ : L2.St} {H : Hp} {s : Shared} {Q : VK} {us : List Value} {vs : List V}
    (F : FnG X.prog X.w X.K X.mg X.base CX k f fd ps sp) (hgd : X.A.guards = some []) (hr : Room k X.A)
    (hb : Binds X.K fd ps ds) (hd : Vals dvs ds) (hx : Passes CX X E)
    (I : Inv X pins σ H s) (r : Vals vs us) (h : sp (vs ++ dvs) H Q E) :
    wpAny (model X.prog X.w) X.A (call (.ref f) us) (EP X pins σ Q) X.xe s := by
  have rr : Vals (vs ++ dvs) (us ++ ds) := r.append hd
  have hl : (us ++ ds).length = ps.length := by
    rw [← rr.length]
    exact F.many _ _ _ _ h
  refine wpAny_call (codeAny_mono (F.goes X.A X.stack s H ⟨us, []⟩ (us ++ ds) (vs ++ dvs) Q E
    hgd hr I.env0 (hb s us I.kIn hl) rr h) fun z s2 hq => ?_)
  cases z with
  | error e => exact hx pins σ H s e s2 I hq
  | ok fl =>
    cases fl with
    | ret u => exact I.after hq
    | next => exact hq.elim
    | brk => exact hq.elim
    | cont => exact hq.elim
/-- f(e, ..) of such a def -/
theorem pe_callG (F : FnG X.prog X.w X.K X.mg X.base CX k f fd ps sp) (hgd : X.A.guards = some [])
    (hr : Room k X.A) (hg : Gl X x) (hm : X.mg x = some (.ref f)) (hk : PySem.W.keepIn X.K (.ref f) = true)
    (hb : Binds X.K fd ps ds) (hd : Vals dvs ds) (hx : Passes CX X E) (ha : PA X (e :: es) t)
    (hdb : (x == ("__debug__" : Str)) = false := by decide)
    (he : starEach (e :: es) X.env = (false, eval e X.env) :: starEach es X.env := by rfl)
    (hpl : (backTo pos (starEach es X.env)).any (·.1) = false := by rfl) :
    PE X (.Call (.Name x p) (e :: es) [] pos) (tCall sp dvs E t) := by
  constructor
  intro pins s σ H Q I h
  refine wpAny_Call_Name_kw (ld_glob I hg hm ?_ hdb)
  refine PySem.W.callWith_K (h₀ := X.base) I.ok.mod.kin hk (thn (ha.run pos pins s σ H _ I h)
    fun us s1 ⟨vs, H1, I1, r, q⟩ => ⟨I1.kIn, ?_⟩) he hpl
  exact runG F hgd hr hb hd hx I1 r q
end
/-! ### what repr shows -/
mutual
/-- the value v is the datum d. nd: no dict is in it -/
inductive Sh (K : PySem.W.Frag) (nd : Bool) (H : Hp) : V → PyData → Prop
  | non : Sh K nd H .non .none
  | bl (b : Bool) : Sh K nd H (.bl b) (.bool b)
  | int (i : Int) : Sh K nd H (.int i) (.int i)
  | str (x : Str) : Sh K nd H (.str x) (.str x)
  | lst {a : Addr} {xs : List V} {ds : List PyData} : SqL K H a xs → (nd = false → a ≠ sysModules) →
      ShAll K nd H xs ds → Sh K nd H (.ref a) (.list ds)
  | tup {a : Addr} {xs : List V} {ds : List PyData} : SqT K H a xs →
      ShAll K nd H xs ds → Sh K nd H (.ref a) (.tuple ds)
  | dict {a : Addr} {kvs : List (Key × V)} {ks vs : List PyData} : nd = false → H a = some (.dK kvs) →
      ShAll K nd H (kvs.map fun p => kV p.1) ks → ShAll K nd H (kvs.map fun p => p.2) vs →
      Sh K nd H (.ref a) (.dict (ks.zip vs))
inductive ShAll (K : PySem.W.Frag) (nd : Bool) (H : Hp) : List V → List PyData → Prop
  | nil : ShAll K nd H [] []
  | cons {v : V} {vs : List V} {d : PyData} {ds : List PyData} : Sh K nd H v d →
      ShAll K nd H vs ds → ShAll K nd H (v :: vs) (d :: ds)
end
theorem ShAll.length {K : PySem.W.Frag} {nd : Bool} {H : Hp} : ∀ {vs : List V} {ds : List PyData}, ShAll K nd H vs ds → vs.length = ds.length
  | _, _, .nil => rfl
  | _, _, .cons _ t => by rw [List.length_cons, List.length_cons, t.length]
theorem pairs_vals {P : Program} {w : World} : ∀ {es : List DictEntry} {kvs : List (Key × V)} {vs : List (Key × Value)},
    KV kvs vs → Pairs (mixKind P w) es vs →
    Vals (kvs.map fun p => kV p.1) (es.map (·.key)) ∧ Vals (kvs.map fun p => p.2) (es.map (·.val))
  | _, _, _, .nil, .nil => ⟨.nil, .nil⟩
  | _, _, _, .cons ⟨e1, r1⟩ t, .cons h1 h2 ht => by
    obtain ⟨q1, q2⟩ := pairs_vals t ht
    refine ⟨.cons ?_ q1, .cons (by show RelV _ (DictEntry.val _); rw [h2]; exact r1) q2⟩
    have h1' : keyIs _ _ = true := h1
    rw [← e1] at h1'
    show RelV (kV (Prod.fst _)) (DictEntry.key _)
    rcases keyIs_shape h1' with ⟨i, t, e, e2⟩ | ⟨x, t, e, e2⟩
    · rw [e, e2]
      exact ⟨t, rfl⟩
    · rw [e, e2]
      exact ⟨t, rfl⟩
theorem zip_fst : ∀ {α β : Type} (xs : List α) (ys : List β), xs.length = ys.length → (xs.zip ys).map (·.1) = xs
  | _, _, [], _, _ => rfl
  | _, _, x :: xs, y :: ys, h => by
    show x :: (xs.zip ys).map (·.1) = x :: xs
    rw [zip_fst xs ys (Nat.succ.inj h)]
theorem zip_snd : ∀ {α β : Type} (xs : List α) (ys : List β), xs.length = ys.length → (xs.zip ys).map (·.2) = ys
  | _, _, [], [], _ => rfl
  | _, _, x :: xs, y :: ys, h => by
    show y :: (xs.zip ys).map (·.2) = y :: ys
    rw [zip_snd xs ys (Nat.succ.inj h)]
section
variable {X : Cx} {pins : List (Addr × Obj)} {σ : L2.St} {H : Hp} {s : Shared} {nd : Bool}
mutual
theorem Sh.reads (I : Inv X pins σ H s) : ∀ {v : V} {d : PyData} {u : Value}, Sh X.K nd H v d → RelV v u →
    ∃ as, Reads s.heap u d as ∧ (nd = false → sysModules ∉ as) ∧ (nd = true → d.hasDict = false)
  | _, _, _, .non, r => by
    cases r
    exact ⟨_, Reads.none, fun _ h => (nomatch h), fun _ => by simp [PyData.hasDict]⟩
  | _, _, _, .bl b, r => by
    cases r
    exact ⟨_, Reads.bool b, fun _ h => (nomatch h), fun _ => by simp [PyData.hasDict]⟩
  | _, _, _, .int i, r => by
    obtain ⟨t, rfl⟩ := r
    exact ⟨_, Reads.int i t, fun _ h => (nomatch h), fun _ => by simp [PyData.hasDict]⟩
  | _, _, _, .str x, r => by
    obtain ⟨t, rfl⟩ := r
    exact ⟨_, Reads.str x t, fun _ h => (nomatch h), fun _ => by simp [PyData.hasDict]⟩
  | _, _, _, .lst hs hne ha, r => by
    cases r
    obtain ⟨its, rv, ⟨o, n, ho, hc, _, hd⟩, _⟩ := I.list hs
    obtain ⟨as, h1, h2, h3⟩ := ShAll.reads I ha rv
    refine ⟨_, Reads.list ho hc hd h1, fun e hm => ?_, fun e => by simp only [PyData.hasDict]; exact h3 e⟩
    rcases List.mem_cons.mp hm with z | z
    · exact hne e z.symm
    · exact h2 e z
  | _, _, _, .tup hs ha, r => by
    cases r
    obtain ⟨its, rv, ⟨o, ho, hc, n, hd⟩, _⟩ := I.tuple hs
    obtain ⟨as, h1, h2, h3⟩ := ShAll.reads I ha rv
    exact ⟨_, Reads.tuple ho hc hd h1, h2, fun e => by simp only [PyData.hasDict]; exact h3 e⟩
  | _, _, _, .dict (a := a) (kvs := kvs) (ks := ks) (vs := ds) e0 hs hk hv, r => by
    cases r
    have l1 := hk.length
    have l2 := hv.length
    rw [List.length_map] at l1 l2
    have l3 : ks.length = ds.length := l1.symm.trans l2
    obtain ⟨_, hne, vs, kv, o, es, ep, g1, g2, g3, _, g5, _⟩ :=
      (show ObjOk X.prog X.w H s.heap a (.dK kvs) from I.hok a _ hs)
    obtain ⟨v1, v2⟩ := pairs_vals kv g5
    obtain ⟨as, h1, h2, _⟩ := ShAll.reads I hk v1
    obtain ⟨bs, k1, k2, _⟩ := ShAll.reads I hv v2
    refine ⟨_, Reads.dict (kvs := ks.zip ds) g1 g2.1 g3 (by rw [zip_fst ks ds l3]; exact h1)
      (by rw [zip_snd ks ds l3]; exact k1), fun e hm => ?_, fun e => by rw [e0] at e; cases e⟩
    rcases List.mem_append.mp hm with z | z
    · rcases List.mem_cons.mp z with y | y
      · rw [← y] at hne
        simp at hne
      · exact h2 e y
    · exact k2 e z
theorem ShAll.reads (I : Inv X pins σ H s) : ∀ {vs : List V} {ds : List PyData} {us : List Value},
    ShAll X.K nd H vs ds → Vals vs us →
    ∃ as, ReadsAll s.heap us ds as ∧ (nd = false → sysModules ∉ as) ∧ (nd = true → PyData.hasDictAll ds = false)
  | _, _, _, .nil, r => by
    cases r
    exact ⟨_, ReadsAll.nil, fun _ h => (nomatch h), fun _ => by simp [PyData.hasDictAll]⟩
  | _, _, _, .cons h1 h2, .cons r1 r2 => by
    obtain ⟨as, q1, q2, q3⟩ := Sh.reads I h1 r1
    obtain ⟨bs, k1, k2, k3⟩ := ShAll.reads I h2 r2
    refine ⟨_, ReadsAll.cons q1 k1, fun e hm => ?_, fun e => by simp only [PyData.hasDictAll, q3 e, k3 e, Bool.or_self]⟩
    rcases List.mem_append.mp hm with z | z
    · exact q2 e z
    · exact k2 e z
end
/-- repr of a datum -/
def rRepr (K : PySem.W.Frag) : List V → Hp → VK → Prop := fun xs H Q => ∃ (nd : Bool) (x : V) (d : PyData), xs = [x] ∧
  Sh K nd H x d ∧ d.showable = true ∧ d.shown.length ≤ sizeLine ∧ d.depth ≤ 60 ∧ Q (.str d.shown) H
theorem call_reprD (hg : X.A.guards = some []) (hu : X.A.units + 64 < cLine) : CallR X (.builtin "repr") (rRepr X.K) := by
  intro pins s σ H xs us Q I r h
  obtain ⟨nd, x, d, rfl, sh, hs, hz, hd, q⟩ := h
  obtain ⟨u, rfl, ru⟩ : ∃ u, us = [u] ∧ RelV x u := by
    cases r with
    | cons r1 r2 =>
      cases r2
      exact ⟨_, rfl, r1⟩
  obtain ⟨as, rd, n1, n2⟩ := sh.reads I ru
  cases sh with
  | non =>
    cases ru
    exact PySem.P.repr_of_none ⟨.str "None", H, I.tok _, ⟨_, rfl⟩, by simpa [PyData.shown] using q⟩
  | bl b =>
    cases ru
    exact PySem.P.repr_of_bool ⟨.str (if b then "True" else "False"), H, I.tok _, ⟨_, rfl⟩, by simpa [PyData.shown] using q⟩
  | int i =>
    obtain ⟨t, rfl⟩ := ru
    exact PySem.P.repr_of_int (by simpa [PyData.showable] using hs) ⟨.str (toString i), H, I.tok _, ⟨_, rfl⟩, by simpa [PyData.shown] using q⟩
  | str z =>
    obtain ⟨t, rfl⟩ := ru
    exact PySem.P.repr_of_str ⟨.str (reprText z), H, I.tok _, ⟨_, rfl⟩, by simpa [PyData.shown] using q⟩ (by simpa [PyData.shown] using hz)
  | lst h1 h2 h3 =>
    cases ru
    exact repr_of_reads' rd hs (fun e => by cases nd with
      | false => exact n1 rfl
      | true => rw [n2 rfl] at e; cases e) hg (by omega) (fun _ _ e => e) (fun h2 u tk hk => ⟨.str _, H, I.kept hk, ⟨_, rfl⟩, q⟩) hz
  | tup h1 h2 =>
    cases ru
    exact repr_of_reads' rd hs (fun e => by cases nd with
      | false => exact n1 rfl
      | true => rw [n2 rfl] at e; cases e) hg (by omega) (fun _ _ e => e) (fun h2 u tk hk => ⟨.str _, H, I.kept hk, ⟨_, rfl⟩, q⟩) hz
  | dict h1 h2 h3 h4 =>
    cases ru
    exact repr_of_reads' rd hs (fun e => by cases nd with
      | false => exact n1 rfl
      | true => rw [n2 rfl] at e; cases e) hg (by omega) (fun _ _ e => e) (fun h2 u tk hk => ⟨.str _, H, I.kept hk, ⟨_, rfl⟩, q⟩) hz
end
end Kv
/-! The end of a law whose def shows values with repr. -/
namespace Kv
open PySem PySem.Spec PyProof.Rows L2
section
variable {P : Program} {w : World} {K : PySem.W.Frag} {mg mb : Str → Option Value} {CX : CXT} {k : Nat}
  {fa a : Addr} {fd : FuncData} {x : Str} {sp : Sp} {s1 : Shared} {vs : List Value} {ns : List Int}
/-- the list object of the script -/
abbrev scr (vs : List Value) : Obj := { cls := .type "list", data := .seq vs.toArray }
abbrev Done (s1 : Shared) (r : Result) (s2 : Shared) : Prop :=
  r = .ok (.ret (.bool true)) ∧ OldK s1.heap s2.heap ∧ s2.os = s1.os ∧ AllBare s2.gens
/-- from a heap in which at most the script is tracked -/
theorem law_from (H : Hp) (KX : K.In s1.heap) (hns : s1.heap.Ns mainGlobals mg) (hb : s1.heap.Ns builtinsNs mb)
    (hbb : ∀ y : Str, y ≠ "__name__" → mb y = bootBuiltins y) (hlim : s1.heap.NoLimit) (hg : s1.gens = #[])
    (ha : s1.heap.get? a = some (scr vs)) (hr : Room k callerA) (low : sysModules < s1.heap.objs.size)
    (F : ∀ base : Heap, K.In base → base.Ns mainGlobals mg → sysModules < base.objs.size →
      FnG P w K mg base CX k fa fd [x] sp)
    (bind : ∀ (s : Shared) (u : Value), BindsTo s fd ⟨[u], []⟩ [(x, u)])
    (hsp : sp [.ref a] H (fun v _ => v = .bl true) fun _ _ _ => False)
    (hCX : ∀ e s2, CX [] H s1 (fun _ _ _ => False) e s2 → False)
    (hO : Only H) (hok : HOk P w H s1.heap) (hA : ∀ b u, H b = some u → b = a)
    (hK : ∀ u, H a = some u → K.lookup a = none) :
    codeAny (model P w) callerA (.call (.ref fa) ⟨[.ref a], []⟩) (Done s1) s1 := by
  have nodict : ∀ {b : Addr} {o : Obj} {es : Array DictEntry} {ep : Nat},
      s1.heap.get? b = some o → o.data = .dict es ep → H b = none := by
    intro b o es ep e d
    cases q : H b with
    | none => rfl
    | some u =>
      rw [hA b u q, ha] at e
      cases e
      exact nomatch (show Data.seq vs.toArray _ = Data.dict es ep from d)
  have ns2 : ∀ {b : Addr} {m : Str → Option Value}, s1.heap.Ns b m → (hidT s1.heap H).Ns b m := by
    intro b m h
    obtain ⟨o, es, ep, e, d, r⟩ := h
    exact ⟨o, es, ep, hidT_get e (nodict e d), d, r⟩
  have kin : K.In (hidT s1.heap H) := by
    intro b o e
    refine hidT_get (KX b o e) ?_
    cases q : H b with
    | none => rfl
    | some u =>
      have z := hA b u q
      subst z
      rw [hK u q] at e
      cases e
  have md : Mod K mg (hidT s1.heap H) := by
    obtain ⟨mc, l1, l2⟩ := hlim
    exact ⟨kin, ns2 hns, ⟨mb, ns2 hb, hbb⟩, ⟨mc, ns2 l1, l2⟩⟩
  have e0 : Env0 P w K mg (hidT s1.heap H) callerA [] s1 H := by
    refine ⟨rfl, md, fun b o e => of_hidT e, Nat.le_of_eq (hidT_size _ _), trivial, ?_, hok, .of_eq hg⟩
    intro b z
    exact nomatch (show b ∈ ([] : List Addr) from z)
  have low2 : sysModules < (hidT s1.heap H).objs.size := by
    rw [hidT_size]
    exact low
  refine codeAny_mono ((F _ kin (ns2 hns) low2).goes callerA [] s1 H ⟨[.ref a], []⟩ [.ref a] [.ref a] _ _
    rfl hr e0 (bind s1 (.ref a)) (.cons rfl .nil) hsp) fun r s2 h => ?_
  cases r with
  | error e => exact (hCX e s2 h).elim
  | ok fl =>
    cases fl with
    | next => exact h.elim
    | brk => exact h.elim
    | cont => exact h.elim
    | ret u =>
      obtain ⟨v, H2, os, bare, un, hok2, r2, q2⟩ := h
      have q3 : v = .bl true := q2
      subst q3
      obtain rfl : u = Value.bool true := r2
      refine ⟨rfl, OldK.of_keep fun b o e => ?_, os, bare⟩
      rcases hO b with z | ⟨ob, xs, z⟩
      · exact un.keep b o e z (fun y => nomatch (show b ∈ ([] : List Addr) from y)) (by simp)
      · obtain ⟨e1, _⟩ := hok b _ z
        obtain ⟨e2, _⟩ := hok2 b _ (un.frzs b ob _ z)
        rw [e] at e1
        cases e1
        exact e2
/-- the script tracked, unless it is one of the module's own objects -/
theorem law_callG (KX : K.In s1.heap) (hns : s1.heap.Ns mainGlobals mg) (hb : s1.heap.Ns builtinsNs mb)
    (hbb : ∀ y : Str, y ≠ "__name__" → mb y = bootBuiltins y) (hlim : s1.heap.NoLimit) (hg : s1.gens = #[])
    (ha : s1.heap.get? a = some (scr vs)) (hi : IntsAre vs ns) (hl : ns.length ≤ sizeLine)
    (hr : Room k callerA) (low : sysModules < s1.heap.objs.size)
    (F : ∀ base : Heap, K.In base → base.Ns mainGlobals mg → sysModules < base.objs.size →
      FnG P w K mg base CX k fa fd [x] sp)
    (bind : ∀ (s : Shared) (u : Value), BindsTo s fd ⟨[u], []⟩ [(x, u)])
    (hsp : ∀ H : Hp, Only H → SqL K H a (ns.map V.int) →
      sp [.ref a] H (fun v _ => v = .bl true) fun _ _ _ => False)
    (hCX : ∀ H e s2, CX [] H s1 (fun _ _ _ => False) e s2 → False) :
    codeAny (model P w) callerA (.call (.ref fa) ⟨[.ref a], []⟩) (Done s1) s1 := by
  have rv : Vals (ns.map V.int) vs := vals_ints hi
  have len : vs.length = ns.length := by
    have := rv.length
    rw [List.length_map] at this
    exact this.symm
  cases hk : K.lookup a with
  | some o =>
    have e := KX a o hk
    rw [ha] at e
    cases e
    have sq : SqL K (fun _ => none) a (ns.map V.int) := by
      refine Or.inr ⟨_, vs.toArray, _, hk, rfl, rfl, rfl, ?_, by simpa using rv⟩
      rw [List.size_toArray, len]
      exact hl
    have on : Only fun _ => none := fun _ => Or.inl rfl
    refine law_from (fun _ => none) KX hns hb hbb hlim hg ha hr low F bind (hsp _ on sq) (hCX _) on ?_ ?_ ?_
    · intro b u z
      exact nomatch z
    · intro b u z
      exact nomatch z
    · intro u z
      exact nomatch z
  | none =>
    let H : Hp := fun b => if b = a then some (.frz (scr vs) (.lst (ns.map V.int))) else none
    have at1 : H a = some (.frz (scr vs) (.lst (ns.map V.int))) := if_pos rfl
    have out : ∀ b u, H b = some u → b = a ∧ u = .frz (scr vs) (.lst (ns.map V.int)) := by
      intro b u z
      by_cases hb : b = a
      · subst hb
        rw [at1] at z
        exact ⟨rfl, (Option.some.inj z).symm⟩
      · have z2 : (none : Option HO) = some u := (if_neg hb).symm.trans z
        cases z2
    have on : Only H := by
      intro b
      by_cases hb : b = a
      · exact Or.inr ⟨_, _, by rw [hb]; exact at1⟩
      · exact Or.inl (if_neg hb)
    refine law_from H KX hns hb hbb hlim hg ha hr low F bind (hsp _ on (Or.inl (Or.inr ⟨_, at1⟩))) (hCX _) on ?_
      (fun b u z => (out b u z).1) fun _ _ => hk
    intro b u z
    obtain ⟨rfl, rfl⟩ := out b u z
    refine ⟨ha, ?_, vs, _, rv, ha⟩
    rw [List.length_map]
    exact hl
end
/-- the goal that k_head leaves, from the law's promise -/
theorem walk_ofG {l : PySem.W.OpenLaw} {n k : Nat} {q : Program} {loose : List Str}
    {XP : (Str → Option Value) → Heap → Prop} {YP : World → Heap → Prop} {d : DefRec} {K : Params → PySem.W.Frag}
    {sp : World → Sp} {x : Str}
    (hn : l.most = some n) (hn2 : n ≤ sizeLine) (hdf : d.params.defaults = []) (hr : Room k callerA)
    (hY : ∀ (w : World) (h : Heap), YP w h → (K w.params).In h)
    (F : ∀ (w : World) (mg : Str → Option Value) (fa : Addr) (h : Heap), (K w.params).In h →
      h.Ns mainGlobals mg → mg d.name = some (.ref fa) →
      ∃ fd : FuncData, (∀ (s : Shared) (u : Value), BindsTo s fd ⟨[u], []⟩ [(x, u)]) ∧
        ∀ base : Heap, (K w.params).In base → base.Ns mainGlobals mg → sysModules < base.objs.size →
          FnG l.prog w (K w.params) mg base CX0 k fa fd [x] (sp w))
    (hsp : ∀ (w : World) (H : Hp) (a : Addr) (ns : List Int), ns.length ≤ n →
      (∀ z ∈ ns, Builtin.Int.intBits z ≤ 1048576) → Only H → SqL (K w.params) H a (ns.map V.int) →
      sp w [.ref a] H (fun v _ => v = .bl true) fun _ _ _ => False) :
    PySem.W.WalkO q loose XP YP l.row.toRowW d [] (fun f vs => PySem.call f vs) := by
  refine Att.attach_callB hn hdf ?_
  intro w s0 s1 mg mb fa o pm cd doc a vs ns G Y ho hd hcd hmg hobj hints hlen hbits hgens
  have KX := hY w _ Y
  obtain ⟨fd, hb, hF⟩ := F w mg fa _ KX G.T.g hmg
  exact law_callG KX G.T.g G.T.b G.T.builtins G.T.nolimit hgens hobj hints (Nat.le_trans hlen hn2) hr G.low hF hb
    (fun H hO hS => hsp w H a ns hlen hbits hO hS) fun H e s2 z => z
end Kv
/-! Texts of few plain signs; what isinstance says of a datum. -/
namespace Kv
open PySem PySem.Spec PyProof.Rows L2
/-- at most n signs, all below 128 -/
def Sm (n : Nat) (x : Str) : Prop := x.length ≤ n ∧ ∀ c ∈ x.cps.toList, c < 128
theorem len_list (x : Str) : x.length = x.cps.toList.length := by
  show x.cps.size = _
  rw [Array.length_toList]
theorem Sm.mono {n m : Nat} {x : Str} (h : Sm n x) (hn : n ≤ m) : Sm m x := ⟨Nat.le_trans h.1 hn, h.2⟩
theorem Sm.app {n m : Nat} {x y : Str} (h : Sm n x) (k : Sm m y) : Sm (n + m) (x ++ y) := by
  have e : (x ++ y).cps.toList = x.cps.toList ++ y.cps.toList := TL.tl_append x y
  refine ⟨?_, fun c hc => ?_⟩
  · rw [len_list, e, List.length_append, ← len_list, ← len_list]
    exact Nat.add_le_add h.1 k.1
  · rw [e] at hc
    rcases List.mem_append.mp hc with z | z
    · exact h.2 c z
    · exact k.2 c z
theorem Sm.cut {n : Nat} {x : Str} (h : Sm n x) (lo hi : Option Int) : Sm n (cutS x lo hi) := by
  have e : (cutS x lo hi).cps.toList = (x.cps.toList.drop (HT.sIx x.length 0 lo)).take (HT.sIx x.length x.length hi - HT.sIx x.length 0 lo) := by
    unfold cutS
    rfl
  refine ⟨?_, fun c hc => ?_⟩
  · rw [len_list, e]
    rw [List.length_take, List.length_drop, ← len_list]
    have := h.1
    omega
  · rw [e] at hc
    exact h.2 c (List.mem_of_mem_drop (List.mem_of_mem_take hc))
theorem Sm.upper {n : Nat} {x : Str} (h : Sm n x) : Sm n (Txt.upper x) := by
  rw [upper_ascii h.2]
  refine ⟨?_, fun c hc => ?_⟩
  · show (x.cps.map up1).size ≤ n
    rw [Array.size_map]
    exact h.1
  · have hc2 : c ∈ (x.cps.map up1).toList := hc
    rw [Array.toList_map] at hc2
    obtain ⟨d, hd, rfl⟩ := List.mem_map.mp hc2
    have := h.2 d hd
    unfold up1
    split <;> omega
theorem joinL_nil : ∀ ps : List (List Nat), TL.joinL [] ps = ps.flatten
  | [] => rfl
  | [p] => by simp [TL.joinL]
  | p :: q :: r => by
    show p ++ ([] ++ TL.joinL [] (q :: r)) = _
    rw [joinL_nil (q :: r)]
    simp
/-- texts of one plain sign each, joined by nothing -/
theorem Sm.join : ∀ {ys : List Str}, (∀ y ∈ ys, Sm 1 y) → Sm ys.length (Txt.join "" ys) := by
  intro ys hy
  have e : (Txt.join "" ys).cps.toList = (ys.map TL.tl).flatten := by
    rw [TL.join_eq]
    show TL.tl (Str.join _ _) = _
    rw [TL.tl_join]
    exact joinL_nil _
  refine ⟨?_, fun c hc => ?_⟩
  · rw [len_list, e]
    clear e
    induction ys with
    | nil => exact Nat.le_refl _
    | cons y r ih =>
      have h1 := (hy y (List.mem_cons_self ..)).1
      have h2 := ih fun z hz => hy z (List.mem_cons_of_mem _ hz)
      rw [len_list] at h1
      simp only [List.map_cons, List.flatten_cons, List.length_append, List.length_cons]
      have h3 : (TL.tl y).length ≤ 1 := h1
      omega
  · rw [e] at hc
    obtain ⟨l, hl, hcl⟩ := List.mem_flatten.mp hc
    obtain ⟨y, hm, rfl⟩ := List.mem_map.mp hl
    exact (hy y hm).2 c hcl
theorem Sm.shown {n : Nat} {x : Str} (h : Sm n x) : (reprText x).length ≤ 10 * n + 2 := by
  have := PySem.StrLaws.reprText_len x fun c hc => Nat.lt_trans (h.2 c hc) (by decide)
  have := h.1
  omega
theorem sz1 : ∀ {n : Nat}, n ≤ 1000 → n < sizeLine := fun h => small1000 h
theorem szle {n : Nat} (h : n ≤ 10000) : n ≤ sizeLine := Nat.le_trans h (by decide)
theorem Sm.le {n : Nat} {x : Str} (h : Sm n x) (hn : n ≤ 10000 := by decide) : x.length ≤ sizeLine := szle (Nat.le_trans h.1 hn)
theorem Sm.le2 {n m : Nat} {x y : Str} (h : Sm n x) (k : Sm m y) (hn : n + m ≤ 10000 := by decide) : x.length + y.length ≤ sizeLine :=
  szle (Nat.le_trans (Nat.add_le_add h.1 k.1) hn)
theorem atI_some {α : Type} {L : List α} {d : Int} (h0 : 0 ≤ d) (h1 : d < L.length) : ∃ c, atI L d = some c ∧ c ∈ L := by
  obtain ⟨j, rfl⟩ := Int.eq_ofNat_of_zero_le h0
  have hj : j < L.length := by omega
  exact ⟨L[j], atI_nat (List.getElem?_eq_getElem hj), List.getElem_mem hj⟩
/-- what isinstance(x, str) says of a datum -/
theorem Sh.ty {K : PySem.W.Frag} {nd : Bool} {H : Hp} {v : V} {d : PyData} (h : Sh K nd H v d) :
    ∃ T : String, TyX K H v (.type T) ∧ ((∃ x, v = .str x ∧ T = "str") ∨ ((∀ x, v ≠ .str x) ∧ (T = "NoneType" ∨ T = "bool" ∨ T = "int" ∨ T = "list" ∨ T = "tuple" ∨ T = "dict"))) := by
  cases h with
  | non => exact ⟨_, .base .non, .inr ⟨(fun x e => nomatch e), by simp⟩⟩
  | bl b => exact ⟨_, .base (.bl b), .inr ⟨(fun x e => nomatch e), by simp⟩⟩
  | int i => exact ⟨_, .base (.int i), .inr ⟨(fun x e => nomatch e), by simp⟩⟩
  | str x => exact ⟨_, .base (.str x), .inl ⟨x, rfl, rfl⟩⟩
  | lst hs _ _ =>
    refine ⟨"list", ?_, .inr ⟨(fun x e => nomatch e), by simp⟩⟩
    rcases hs with (h | ⟨o, h⟩) | ⟨o, its, n, hk, hc, _⟩
    · exact .base (.lst h)
    · exact .base (.frz h)
    · exact .kList hk hc
  | tup hs _ =>
    refine ⟨"tuple", ?_, .inr ⟨(fun x e => nomatch e), by simp⟩⟩
    rcases hs with (h | ⟨o, h⟩) | ⟨o, its, n, hk, hc, _⟩
    · exact .base (.tup h)
    · exact .fTuple h
    · exact .kTuple hk hc
  | dict _ h _ _ => exact ⟨"dict", .base (.dK h), .inr ⟨(fun x e => nomatch e), by simp⟩⟩
mutual
theorem Sh.same {K : PySem.W.Frag} {nd : Bool} {H H' : Hp} (s : Same H H') : ∀ {v : V} {d : PyData}, Sh K nd H v d → Sh K nd H' v d
  | _, _, .non => .non
  | _, _, .bl b => .bl b
  | _, _, .int i => .int i
  | _, _, .str x => .str x
  | _, _, .lst h1 h2 h3 => .lst (s.seq h1) h2 (ShAll.same s h3)
  | _, _, .tup h1 h3 => .tup (by
      rcases h1 with (h | ⟨o, h⟩) | h
      · exact .inl (.inl (s _ _ h))
      · exact .inl (.inr ⟨o, s _ _ h⟩)
      · exact .inr h) (ShAll.same s h3)
  | _, _, .dict e h1 h2 h3 => .dict e (s _ _ h1) (ShAll.same s h2) (ShAll.same s h3)
theorem ShAll.same {K : PySem.W.Frag} {nd : Bool} {H H' : Hp} (s : Same H H') : ∀ {vs : List V} {ds : List PyData}, ShAll K nd H vs ds → ShAll K nd H' vs ds
  | _, _, .nil => .nil
  | _, _, .cons h1 h2 => .cons (Sh.same s h1) (ShAll.same s h2)
end
/-! ### f(k = v): keywords alone -/
section
variable {X : Cx} {CX : CXT} {k : Nat} {f : Addr} {fd : FuncData} {ps ks : List Str} {sp : Sp} {E : XK}
  {x : Str} {p pos : Pos} {kws : List Keyword} {tk : TA}
  {g : List Value → List Value → List Value} {gV : List V → List V → List V}
theorem pe_kwOnly (F : FnOk X.prog X.w X.K X.mg X.base CX k f fd ps sp) (hr : Room k X.A) (hg : Gl X x)
    (hm : X.mg x = some (.ref f)) (hk : PySem.W.keepIn X.K (.ref f) = true) (hb : KBinds X.K fd ps ks g gV)
    (hx : Passes CX X E) (hkw : PK X kws tk)
    (hall : (backToKw pos (keywordEach kws X.env)).all (·.1.isSome) = true := by rfl)
    (hks : (backToKw pos (keywordEach kws X.env)).filterMap (·.1) = ks := by rfl)
    (hdb : (x == ("__debug__" : Str)) = false := by decide)
    (hpl : ((backTo pos (starEach [] X.env)).any (·.1) || (backToKw pos (keywordEach kws X.env)).any (·.1.isNone)) = false := by rfl) :
    PE X (.Call (.Name x p) [] kws pos) (tCallK sp gV E tNil tk) := by
  constructor
  intro pins s σ H Q I h
  refine wpAny_Call_Name_kw (ld_glob I hg hm ?_ hdb)
  refine PySem.W.callWith_KW0 (h₀ := X.base) I.ok.mod.kin hk hall ?_ hpl
  refine thn (hkw.run pos pins s σ H _ I h) fun ws s2 ⟨zs, H2, I2, rz, q2⟩ => ⟨I2.kIn, ?_⟩
  rw [hks]
  exact run_fnk (us := []) (vs := []) F hr hb hx I2 .nil rz q2
end
end Kv
/-! Data that are small enough to be shown. -/
namespace Kv
open PySem PySem.Spec PyProof.Rows L2
def Fit (n m : Nat) (d : PyData) : Prop := d.showable = true ∧ d.leavesShort 250 = true ∧ d.weight ≤ n ∧ d.depth ≤ m
def FitAll (n m : Nat) (ds : List PyData) : Prop :=
  PyData.showableAll ds = true ∧ PyData.leavesShortAll 250 ds = true ∧ PyData.weightAll ds ≤ n ∧ PyData.depthAll ds ≤ m
def FitKv (n m : Nat) (ds : List (PyData × PyData)) : Prop :=
  PyData.showableKv ds = true ∧ PyData.leavesShortKv 250 ds = true ∧ PyData.weightKv ds ≤ n ∧ PyData.depthKv ds ≤ m
theorem Fit.mono {n m n' m' : Nat} {d : PyData} (h : Fit n m d) (a : n ≤ n') (b : m ≤ m') : Fit n' m' d :=
  ⟨h.1, h.2.1, Nat.le_trans h.2.2.1 a, Nat.le_trans h.2.2.2 b⟩
theorem FitAll.mono {n m n' m' : Nat} {d : List PyData} (h : FitAll n m d) (a : n ≤ n') (b : m ≤ m') : FitAll n' m' d :=
  ⟨h.1, h.2.1, Nat.le_trans h.2.2.1 a, Nat.le_trans h.2.2.2 b⟩
theorem fit_non : Fit 0 0 .none := ⟨by simp [PyData.showable], by simp [PyData.leavesShort], by simp [PyData.weight], by simp [PyData.depth]⟩
theorem fit_bl {b : Bool} : Fit 0 0 (.bool b) := ⟨by simp [PyData.showable], by simp [PyData.leavesShort], by simp [PyData.weight], by simp [PyData.depth]⟩
theorem log2_small {i : Int} (h : i.natAbs ≤ 10 ^ 60) : i.natAbs.log2 < 200 := by
  by_cases h0 : i.natAbs = 0
  · rw [h0]
    decide
  · exact (Nat.log2_lt h0).mpr (Nat.lt_of_le_of_lt h (by decide))
theorem fit_int {i : Int} (h : i.natAbs ≤ 10 ^ 60) : Fit 200 0 (.int i) := by
  have hl := log2_small h
  refine ⟨?_, ?_, ?_, by simp [PyData.depth]⟩
  · simp only [PyData.showable, decide_eq_true_eq]
    omega
  · simp only [PyData.leavesShort]
    refine decide_eq_true ?_
    have e := int_text_length_le (k := 200) (by decide) hl
    have e2 : (PyData.shown (.int i)).length = (toString i).length := by
      simp only [PyData.shown]
      exact PySem.ofString_length _
    omega
  · simp only [PyData.weight]
    split <;> omega
theorem Sm.fit {n : Nat} {x : Str} (h : Sm n x) : Fit n 0 (.str x) := by
  refine ⟨by simp [PyData.showable], ?_, ?_, by simp [PyData.depth]⟩
  · simp only [PyData.leavesShort, List.all_eq_true, decide_eq_true_eq]
    intro c hc
    exact Nat.lt_trans (h.2 c hc) (by decide)
  · simp only [PyData.weight]
    exact h.1
theorem fitAll_nil {m : Nat} : FitAll 0 m [] := ⟨by simp [PyData.showableAll], by simp [PyData.leavesShortAll], by simp [PyData.weightAll], by simp [PyData.depthAll]⟩
theorem FitAll.cons {n n' m : Nat} {d : PyData} {ds : List PyData} (a : Fit n m d) (b : FitAll n' m ds) : FitAll (n + 1 + n') m (d :: ds) := by
  obtain ⟨a1, a2, a3, a4⟩ := a
  obtain ⟨b1, b2, b3, b4⟩ := b
  refine ⟨?_, ?_, ?_, ?_⟩
  · simp only [PyData.showableAll, a1, b1, Bool.and_self]
  · simp only [PyData.leavesShortAll, a2, b2, Bool.and_self]
  · simp only [PyData.weightAll]
    omega
  · simp only [PyData.depthAll]
    omega
theorem Fit.lst {n m : Nat} {ds : List PyData} (a : FitAll n m ds) : Fit n (m + 1) (.list ds) := by
  obtain ⟨a1, a2, a3, a4⟩ := a
  refine ⟨?_, ?_, ?_, ?_⟩
  · simp only [PyData.showable, a1]
  · simp only [PyData.leavesShort, a2]
  · simp only [PyData.weight]
    omega
  · simp only [PyData.depth]
    omega
theorem Fit.tup {n m : Nat} {ds : List PyData} (a : FitAll n m ds) : Fit n (m + 1) (.tuple ds) := by
  obtain ⟨a1, a2, a3, a4⟩ := a
  refine ⟨?_, ?_, ?_, ?_⟩
  · simp only [PyData.showable, a1]
  · simp only [PyData.leavesShort, a2]
  · simp only [PyData.weight]
    omega
  · simp only [PyData.depth]
    omega
theorem fitKv_nil {m : Nat} : FitKv 0 m [] := ⟨by simp [PyData.showableKv], by simp [PyData.leavesShortKv], by simp [PyData.weightKv], by simp [PyData.depthKv]⟩
theorem Fit.consKv {n n' n2 m : Nat} {d e : PyData} {ds : List (PyData × PyData)} (a : Fit n m d) (c : Fit n2 m e) (b : FitKv n' m ds) : FitKv (n + n2 + 2 + n') m ((d, e) :: ds) := by
  obtain ⟨a1, a2, a3, a4⟩ := a
  obtain ⟨b1, b2, b3, b4⟩ := b
  obtain ⟨c1, c2, c3, c4⟩ := c
  refine ⟨?_, ?_, ?_, ?_⟩
  · simp only [PyData.showableKv, a1, b1, c1, Bool.and_self]
  · simp only [PyData.leavesShortKv, a2, b2, c2, Bool.and_self]
  · simp only [PyData.weightKv]
    omega
  · simp only [PyData.depthKv]
    omega
theorem Fit.dict {n m : Nat} {ds : List (PyData × PyData)} (a : FitKv n m ds) : Fit n (m + 1) (.dict ds) := by
  obtain ⟨a1, a2, a3, a4⟩ := a
  refine ⟨?_, ?_, ?_, ?_⟩
  · simp only [PyData.showable, a1]
  · simp only [PyData.leavesShort, a2]
  · simp only [PyData.weight]
    omega
  · simp only [PyData.depth]
    omega
theorem Fit.ok {n m : Nat} {d : PyData} (h : Fit n m d) (hn : n ≤ 60000) (hm : m ≤ 60) : d.showable = true ∧ d.shown.length ≤ sizeLine ∧ d.depth ≤ 60 := by
  obtain ⟨h1, h2, h3, h4⟩ := h
  refine ⟨h1, ?_, by omega⟩
  have := PyData.shown_le 250 (by decide) d h2
  rw [sizeLine_eq]
  omega
/-- a value that can be shown -/
def Good (K : PySem.W.Frag) (H : Hp) (v : V) : Prop := ∃ (nd : Bool) (d : PyData), Sh K nd H v d ∧ Fit 2000 20 d ∧ ∀ x, v = .str x → Sm 1000 x
theorem Good.same {K : PySem.W.Frag} {H H' : Hp} {v : V} (g : Good K H v) (s : Same H H') : Good K H' v := by
  obtain ⟨nd, d, h, r⟩ := g
  exact ⟨nd, d, h.same s, r⟩
theorem Good.non {K : PySem.W.Frag} {H : Hp} : Good K H .non := ⟨true, _, .non, fit_non.mono (by decide) (by decide), fun x e => nomatch e⟩
theorem Good.bl {K : PySem.W.Frag} {H : Hp} {b : Bool} : Good K H (.bl b) := ⟨true, _, .bl b, fit_bl.mono (by decide) (by decide), fun x e => nomatch e⟩
theorem Good.int {K : PySem.W.Frag} {H : Hp} {i : Int} (h : i.natAbs ≤ 10 ^ 60) : Good K H (.int i) := ⟨true, _, .int i, (fit_int h).mono (by decide) (by decide), fun x e => nomatch e⟩
theorem Good.str {K : PySem.W.Frag} {H : Hp} {x : Str} {n : Nat} (h : Sm n x) (hn : n ≤ 1000 := by decide) : Good K H (.str x) :=
  ⟨true, _, .str x, h.fit.mono (by omega) (by decide), fun y e => by
    cases e
    exact h.mono hn⟩
end Kv
/-! len(set(t)), t a tuple of texts, of any number. -/
namespace Kv
open PySem PySem.Spec PyProof.Rows L2
/-- how many different texts stand among the first i -/
def met (xs : List Str) : Nat → Nat
  | 0 => 0
  | i + 1 => if (xs.take i).any (· == xs.getD i Str.empty) then met xs i else met xs i + 1
theorem met_le (xs : List Str) : ∀ i, met xs i ≤ i
  | 0 => Nat.le_refl _
  | i + 1 => by
    have := met_le xs i
    show (if _ then met xs i else met xs i + 1) ≤ _
    split
    · exact Nat.le_succ_of_le this
    · exact Nat.succ_le_succ this
theorem met_nodup {xs : List Str} (h : xs.Nodup) : ∀ i, i ≤ xs.length → met xs i = i
  | 0, _ => rfl
  | i + 1, hi => by
    have ih := met_nodup h i (by omega)
    show (if _ then met xs i else met xs i + 1) = _
    have e : (xs.take i).any (· == xs.getD i Str.empty) = false := by
      rw [List.any_eq_false]
      intro y hy hb
      have hb2 : y = xs.getD i Str.empty := by simpa using hb
      rw [List.getD_eq_getElem?_getD, List.getElem?_eq_getElem (by omega : i < xs.length)] at hb2
      have hb3 : y = xs[i] := hb2
      obtain ⟨j, hj, e1⟩ := List.getElem_of_mem hy
      rw [List.getElem_take] at e1
      have hj2 : j < i := by
        rw [List.length_take] at hj
        omega
      exact (List.pairwise_iff_getElem.mp h j i (by omega) (by omega) hj2) (by rw [e1, hb3])
    rw [e]
    show met xs i + 1 = i + 1
    rw [ih]
section
variable {prog : Program} {w : World} {A : Around} {R : Result → Shared → Prop} {I : Addr} {fp wr : List Addr}
  {G : Array GenState → Array GenState → Prop} {n : Nat} {P : Nat → Value → Prop} {Z : Nat → Shared → Prop}
/-- what the set holds behind i turns -/
abbrev SetBy (prog : Program) (w : World) (h : Heap) (a : Addr) (xs : List Str) (i : Nat) : Prop :=
  h.SetOf (PySem.strKind prog w) a (fun y => (xs.take i).any (· == y)) (met xs i)
theorem SetBy.kept {h h2 : Heap} {a : Addr} {xs : List Str} {i : Nat} (q : SetBy prog w h a xs i)
    (k : ∀ o, h.get? a = some o → h2.get? a = some o) : SetBy prog w h2 a xs i := by
  obtain ⟨o, es, ep, tb, ho, rest⟩ := q
  exact ⟨o, es, ep, tb, k _ ho, rest⟩
theorem fill_texts (W : WalksS prog w A.in1 I fp wr G n P Z) (a : Addr) (ha : a ∉ fp) (xs : List Str)
    (hl : xs.length = n) (hn : n + 1 < scanBound) (hv : ∀ i v, P i v → ∃ t, v = .str (xs.getD i Str.empty) t) :
    ∀ (k i : Nat) (s : Shared), n - i = k → i ≤ n → Z i s → SetBy prog w s.heap a xs i →
      (∀ s2, Moved (a :: wr) G s s2 → SetBy prog w s2.heap a xs n → R (.ok (.ret .none)) s2) →
      codeAny (model prog w) A (.builtin "set.update.loop" ⟨[.ref a, .ref I], []⟩) R s := by
  have haw : a ∉ wr := fun z => ha (W.sub _ z)
  have sub : ∀ b ∈ wr, b ∈ a :: wr := fun b hb => List.mem_cons_of_mem _ hb
  intro k
  induction k with
  | zero =>
    intro i s hk hi hz hS hR
    obtain rfl : i = n := by omega
    refine codeAny_builtin PyProof.Rows.F.entry_set_update_loop ?_
    rw [Around.under_plainId PyProof.Rows.F.plain_set_update_loop _]
    show wpAny _ A.in1 (pyNext (.ref I) >>= _) _ _ s
    refine wpAny_bind (W.done s _ _ hz ?_)
    intro s2 hm
    show wpAny _ A.in1 (ret Value.none) _ _ s2
    refine wpAny_pure (hR s2 (hm.mono sub) (hS.kept ?_))
    intro o ho
    exact hm.heap a _ haw ho
  | succ k ih =>
    intro i s hk hi hz hS hR
    have lt : i < n := by omega
    have mle := met_le xs i
    refine codeAny_builtin PyProof.Rows.F.entry_set_update_loop ?_
    rw [Around.under_plainId PyProof.Rows.F.plain_set_update_loop _]
    show wpAny _ A.in1 (pyNext (.ref I) >>= _) _ _ s
    refine wpAny_bind (W.item i s _ _ lt hz ?_)
    intro v s2 hP hz2 hm
    obtain ⟨t, rfl⟩ := hv i v hP
    have hS2 : SetBy prog w s2.heap a xs i := hS.kept fun o ho => hm.heap a _ haw ho
    show wpAny _ A.in1 (holding [Value.str (xs.getD i Str.empty) t]
      (setAdd a (.str (xs.getD i Str.empty) t)) >>= _) _ _ s2
    refine wpAny_bind (wpAny_holding ?_)
    unfold setAdd
    refine wpAny_holding ?_
    refine wpAny_bind ((PySem.strKind prog w).pyHash (k := xs.getD i Str.empty) (strKind_is _ _ _ _) ?_)
    refine wpAny_setAddHashed_of (knd := PySem.strKind prog w) (s := { s2 with toks := s2.toks + 1 })
      (strKind_is _ _ _ _) rfl hS2 (by omega) ?_
    intro h3 same hS3
    have hS4 : SetBy prog w h3 a xs (i + 1) := by
      refine SetOf_congr hS3 ?_ rfl
      intro y
      have ei : xs[i]? = some (xs.getD i Str.empty) := by
        rw [List.getD_eq_getElem?_getD, List.getElem?_eq_getElem (by omega : i < xs.length)]
        rfl
      rw [List.take_add_one, ei, List.any_append]
      congr 1
      show decide (y = xs.getD i Str.empty) = ([xs.getD i Str.empty].any (· == y))
      simp only [List.any_cons, List.any_nil, Bool.or_false]
      by_cases e : y = xs.getD i Str.empty
      · rw [decide_eq_true e, ← e]
        exact (beq_self_eq_true y).symm
      · rw [decide_eq_false e]
        exact (beq_eq_false_iff_ne.mpr fun z => e z.symm).symm
    refine wpAny_pure ⟨plainId_quiet PyProof.Rows.F.plain_set_update_loop _, ?_⟩
    refine ih (i + 1) _ (by omega) lt (W.frame _ s2 _ _ hz2 (Nat.le_succ _) ?_) hS4 ?_
    · intro b hb o e
      rw [same.2 b (fun z : b = a => ha (z ▸ hb))]
      exact e
    · intro s5 hm5 hS5
      refine hR s5 (Moved.trans W.gtrans ((hm.mono sub).then_heap (Nat.le_succ _) ?_) hm5) hS5
      intro b o hb e
      rw [same.2 b (fun z : b = a => hb (z ▸ List.mem_cons_self))]
      exact e
end
/-- an empty new set -/
abbrev emptySet (led : Bool) : Obj := { cls := .type "set", dict := none, data := .set #[] 0 (.fresh 0 0 led) }
section
variable {prog : Program} {w : World} {A : Around} {E : Value → Shared → Prop} {s : Shared}
set_option maxHeartbeats 3200000 in
theorem set_of_texts {t : Addr} {its : Array Value} {xs : List Str} {Q : Value → Shared → Prop}
    (hh : A.handled = none) (ht : s.heap.IsTuple t its) (hx : PyProof.Rows.StrsAre its.toList xs)
    (hb : xs.length + 1 < scanBound)
    (h : ∀ (h2 : Heap) (tk : Nat), SetBy prog w h2 s.heap.objs.size xs its.size →
      (∀ b o, b < s.heap.objs.size → s.heap.get? b = some o → h2.get? b = some o) →
      Q (.ref s.heap.objs.size) { s with heap := h2, toks := tk }) :
    wpAny (model prog w) A (call (.type "set") [.ref t]) Q E s := by
  obtain ⟨cc, ctl, hmro⟩ := PySem.F.called_set.mro
  have k1 := PySem.F.called_set.made
  have k2 := PySem.F.called_set.sub
  have k3 := PySem.F.called_set.notType
  have k4 := PySem.F.called_set.canCreate
  have k5 := PySem.F.typeCall_set_1 (.ref t)
  refine wpAny_call (codeAny_of_tree ?_)
  show wpAny _ _ (callAny (.type "set") _) _ _ _
  refine wpAny_pure ⟨Code.quiet_builtin _ (by decide +kernel),
    codeAny_builtin PySem.F.entry_type_call ?_⟩
  rw [Around.under_plain (weight_type_call_type "set" [.ref t] []) rfl]
  repeat (any_goals (first | assumption | wp_step))
  refine codeAny_mono (code_set_new_1 (.ref t) (E := E)
    (Q₁ := fun obj s1 => ∃ led : Bool, obj = .ref s.heap.objs.size ∧
      s1 = { s with heap := s.heap.push (emptySet led) }) fun led => ⟨led, rfl, rfl⟩) fun r s1 hr => ?_
  cases r with
  | error e => exact hr
  | ok fl =>
    cases fl with
    | next => exact hr.elim
    | brk => exact hr.elim
    | cont => exact hr.elim
    | ret obj =>
      obtain ⟨led, rfl, rfl⟩ := hr
      have hS : (s.heap.push (emptySet led)).get? s.heap.objs.size = some (emptySet led) :=
        Heap.get?_push_size _ rfl
      have hT : Shared.TypeIs { s with heap := s.heap.push (emptySet led) }
        (.ref s.heap.objs.size) "set" := ⟨_, hS, rfl⟩
      have k6 := PySem.F.called_set.init.lookup
      have k7 := PySem.F.called_set.init.bind (.ref s.heap.objs.size)
      repeat (any_goals (first | assumption | wp_step))
      refine codeAny_mono (codeAny_call_builtin
        (R := wants (fun r s2 => r = .none ∧ ∃ h2 tk, s2 = { s with heap := h2, toks := tk } ∧
          SetBy prog w h2 s.heap.objs.size xs its.size ∧
          (∀ b o, b < s.heap.objs.size → s.heap.get? b = some o → h2.get? b = some o)) E)
        PySem.F.called_set.init.plain PySem.F.entry_set_init (check_set_init_1 hT ?_)) fun r2 s2 hr2 => ?_
      · obtain ⟨ot, hot, hc, nt, hd⟩ := ht
        obtain ⟨c1, d1, dt, sl⟩ := ot
        simp only at hc hd
        subst hc hd
        have hot2 := Heap.get?_push_of_some (emptySet led) hot
        have k8 := PySem.F.sub_tuple_set
        have k9 := PySem.F.sub_tuple_frozenset
        have k10 : (Value.type "tuple" == Value.type "dict") = false := by decide
        have ht1 : (s.heap.push (emptySet led)).IsTuple t its := ⟨_, hot2, rfl, nt, rfl⟩
        unfold Builtin.«set.__init__» noKeywords Builtin.Frozenset.updateFrom
        generalize hPI : pyIter = PI
        wp_walk
        subst hPI
        refine wpAny_pyIter_tuple ht1 ?_
        refine wpAny_bind (wpAny_runValue ?_)
        have ltS : t < s.heap.objs.size := Heap.lt_size hot
        have hh3 : A.in1.in1.in1.handled = none := by simp [hh]
        have ne1 : t ≠ (s.heap.push (emptySet led)).objs.size := by
          rw [Heap.size_push]
          exact Nat.ne_of_lt (Nat.lt_succ_of_lt ltS)
        have nf : s.heap.objs.size ∉ [(s.heap.push (emptySet led)).objs.size, t] := by
          rw [Heap.size_push]
          intro z
          rcases List.mem_cons.mp z with y | y
          · exact absurd y (Nat.ne_of_lt (Nat.lt_succ_self _))
          · exact absurd (List.mem_singleton.mp y) (Nat.ne_of_gt ltS)
        have sz : xs.length = its.size := by
          rw [← StrsAre.len_eq hx, Array.length_toList]
        refine fill_texts ((Walks.tuple hh3 _ t ne1 its).toS) s.heap.objs.size nf xs sz (by omega)
          (fun i v e => SS.strs_at hx i v (by rw [Array.getElem?_toList]; exact e)) (its.size - 0) 0 _ (by omega) (Nat.zero_le _)
          ⟨⟨_, Heap.get?_push_size _ rfl, rfl, rfl⟩, (ht1.push _)⟩ ?c0 ?c1
        case c0 =>
          refine PyProof.Rows.SetOf_congr ((PyProof.Rows.setObjOf_fresh (knd := PySem.strKind prog w) led).setOf
            (Heap.get?_push_of_some _ hS) (by unfold scanBound; omega)) (fun _ => rfl) rfl
        case c1 =>
          intro s3 hm hS3
          obtain ⟨h3, g3, d3, tk3, os3⟩ := s3
          obtain rfl : g3 = s.gens := hm.gens
          obtain rfl : d3 = s.drawn := hm.drawn
          obtain rfl : os3 = s.os := hm.os
          show wpAny _ _ _ _ _ _
          refine wpAny_pure ?_
          show wpAny _ _ (ret Value.none) _ _ _
          refine wpAny_pure ⟨rfl, h3, tk3, rfl, hS3, ?_⟩
          intro b o hb e
          refine hm.heap b o ?_ (Heap.get?_push_of_some _ (Heap.get?_push_of_some _ e))
          intro z
          rcases List.mem_cons.mp z with y | y
          · exact absurd y (Nat.ne_of_lt hb)
          · have y2 := List.mem_singleton.mp y
            rw [Heap.size_push] at y2
            exact absurd y2 (Nat.ne_of_lt (Nat.lt_succ_of_lt hb))
      · cases r2 with
        | error e => exact hr2
        | ok fl2 =>
          cases fl2 with
          | next => exact hr2.elim
          | brk => exact hr2.elim
          | cont => exact hr2.elim
          | ret r =>
            obtain ⟨rfl, h2, tk, rfl, hS2, kp⟩ := hr2
            repeat (any_goals (first | assumption | wp_step))
            exact h _ _ hS2 kp
end
/-- len(set(t)) -/
def tLenTexts (K : PySem.W.Frag) (ta : TE) : TE := fun σ H Q => ta σ H fun x H1 =>
  ∃ (l : Addr) (xs : List Str), x = .ref l ∧ SqT K H1 l (xs.map V.str) ∧ xs.length ≤ 4000 ∧ Q (.int (met xs xs.length : Nat)) H1
section
variable {X : Cx} {a : Expr} {ta : TE} {p p2 q pos : Pos}
theorem pe_lenTexts (hc : X.calm = true) (hg : Gl X "len") (hm : X.mg "len" = none) (hg2 : Gl X "set")
    (hm2 : X.mg "set" = none) (ha : PE X a ta)
    (na : starEach [a] X.env = (false, eval a X.env) :: starEach [] X.env := by rfl) :
    PE X (.Call (.Name "len" p) [.Call (.Name "set" p2) [a] [] q] [] pos) (tLenTexts X.K ta) := by
  constructor
  intro pins s σ H Q I h
  refine Call_ (ld_blt I hg hm boot_len ?_)
  refine PyProof.Rows.callWith_builtin1
    (PyProof.Rows.args_cons ?_ rfl) rfl rfl
  refine Call_ (ld_blt I hg2 hm2 boot_set ?_)
  refine PyProof.Rows.callWith_type1 (PyProof.Rows.args_cons (thn (ha.run pins s σ H _ I h)
    fun v s1 ⟨x, H1, I1, r1, q1⟩ => PyProof.Rows.args_nil ?_) na) na rfl
  obtain ⟨l, xs, rfl, hq, hn, q1⟩ := q1
  cases r1
  obtain ⟨its, r, pl, hz⟩ := I1.tuple hq
  have hl : its.toArray.size = xs.length := by
    rw [List.size_toArray, ← r.length, List.length_map]
  refine set_of_texts (I1.ok.hd hc) pl (by simpa using strsAre_of r) (by unfold scanBound; omega) ?_
  intro h2 tk hS hk
  refine PyProof.Rows.args_nil ?_
  rw [hl] at hS
  obtain ⟨o, es, ep, t, ho, hex, hd, _, _, _, hf, hsz⟩ := hS
  have I2 : Inv X pins σ H1 { s1 with heap := h2, toks := tk } :=
    I1.kept fun b o e => hk b o (Heap.lt_size e) e
  have mle := met_le xs xs.length
  exact call_len_set ho hex hd hf (by rw [hsz]; omega)
    ⟨.int (met xs xs.length : Nat), H1, I2.tok _, ⟨_, by rw [hsz]⟩, q1⟩
end
end Kv
namespace Kv
open PySem PySem.Spec PyProof.Rows L2
/-- a pot stands at p -/
def PotAt (H : Hp) (p : Addr) : Prop := ∃ r g : Int, H p = some (.lst [.int r, .int g]) ∧ 0 ≤ r ∧ 0 ≤ g ∧ g < 2147483647
/-- all but p is as it was -/
def But (p : Addr) (H H' : Hp) : Prop := ∀ b o, b ≠ p → H b = some o → H' b = some o
theorem But.refl {p : Addr} {H : Hp} : But p H H := fun _ _ _ h => h
theorem But.trans {p : Addr} {H H1 H2 : Hp} (a : But p H H1) (b : But p H1 H2) : But p H H2 :=
  fun c o n h => b c o n (a c o n h)
theorem But.of_same {p : Addr} {H H1 : Hp} (a : Same H H1) : But p H H1 := fun c o _ h => a c o h
theorem same_new {H : Hp} {p : Addr} {o : HO} (h : H p = none) : Same H (upd H p o) := by
  intro b x e
  rw [upd_ne (ne_of_none e h)]
  exact e
theorem PotAt.same {H H' : Hp} {p : Addr} (h : PotAt H p) (s : Same H H') : PotAt H' p := by
  obtain ⟨r, g, e, q⟩ := h
  exact ⟨r, g, s _ _ e, q⟩
theorem divp_small {i j : Int} (hj : 0 < j) (h : j.natAbs < 2 ^ 8000) : CDivP i j := by
  refine ⟨hj, ?_⟩
  have hl : j.natAbs.log2 < 8000 := (Nat.log2_lt (by omega)).mpr h
  show (decide ((if j == 0 then 0 else j.natAbs.log2 / 30 + 1) > 300) && decide (_ > _)) = false
  have z : ¬ ((if j == 0 then 0 else j.natAbs.log2 / 30 + 1) > 300) := by
    split <;> omega
  rw [decide_eq_false z, Bool.false_and]
theorem But.new {p q : Addr} {H H1 : Hp} {o : HO} (a : But p H H1) (n : H1 q = none) : But p H (upd H1 q o) :=
  fun c u nc h => same_new n c u (a c u nc h)
theorem same_new2 {H : Hp} {p : Addr} {o u : HO} (h : H p = none) : Same H (upd (upd H p o) p u) := by
  rw [upd_upd]
  exact same_new h
theorem num_sm {i : Int} (h0 : 0 ≤ i) (h : i.natAbs ≤ 10 ^ 60) : Sm 250 (Str.ofString (toString i)) := by
  obtain ⟨n, rfl⟩ := Int.eq_ofNat_of_zero_le h0
  refine ⟨?_, fun c hc => ?_⟩
  · have e := int_text_length_le (k := 200) (by decide) (log2_small h)
    rw [PySem.ofString_length]
    omega
  · have e : TL.tl (Str.ofString (toString ((n : Nat) : Int))) = TL.numL n := TL.tl_num n
    have hc2 : c ∈ TL.numL n := by
      rw [← e]
      exact hc
    unfold TL.numL at hc2
    obtain ⟨z, hz, rfl⟩ := List.mem_map.mp hc2
    have := Nat.isDigit_of_mem_toDigits (by decide) (by decide) hz
    simp only [Char.isDigit, Bool.and_eq_true, decide_eq_true_eq] at this
    have h2 : z.val.toNat ≤ 57 := this.2
    show z.val.toNat < 128
    omega
theorem But.same {p : Addr} {H0 H H' : Hp} (h : But p H H') (n : H0 p = none) (s : Same H0 H) : Same H0 H' :=
  fun b o e => h b o (ne_of_none e n) (s b o e)
theorem all_true (i : Nat) : (List.replicate i true).all id = true := by
  rw [List.all_eq_true]
  intro b hb
  exact (List.mem_replicate.mp hb).2
def az : List Nat := ("abcdefghijklmnopqrstuvwxyz" : Str).cps.toList
def inAz (c : Nat) : Bool := decide (c ∈ az)
/-- is it a name -/
def nameV : V → Bool
  | .str x => (decide (1 ≤ x.length) && decide (x.length ≤ 8)) && x.cps.toList.all inAz
  | _ => false
theorem nameV_not {v : V} (h : ∀ x, v ≠ .str x) : nameV v = false := by
  cases v with
  | str x => exact absurd rfl (h x)
  | _ => rfl
end Kv
/-! Rows of a hierarchy: names and superclasses. -/
namespace Kv
open PySem PySem.Spec PyProof.Rows L2
abbrev Row2 := Str × List Str
def fsts (rows : List Row2) : List Str := rows.map (·.1)
/-- each row is right behind the rows ahead of it -/
def Valid (rows : List Row2) : Prop := ∀ (i : Nat) (n : Str) (ss : List Str), rows[i]? = some (n, ss) →
  nameV (.str n) = true ∧ n ∉ fsts (rows.take i) ∧ ss.Nodup ∧ ∀ s ∈ ss, s ∈ fsts (rows.take i)
theorem valid_nil : Valid [] := fun i n ss h => by simp at h
theorem Valid.snoc {rows : List Row2} {n : Str} {ss : List Str} (v : Valid rows) (h1 : nameV (.str n) = true)
    (h2 : n ∉ fsts rows) (h3 : ss.Nodup) (h4 : ∀ s ∈ ss, s ∈ fsts rows) : Valid (rows ++ [(n, ss)]) := by
  intro i m ts h
  by_cases hi : i < rows.length
  · rw [List.getElem?_append_left hi] at h
    rw [List.take_append_of_le_length (by omega)]
    exact v i m ts h
  · have hi2 : i = rows.length := by
      have := (List.getElem?_eq_some_iff.mp h).1
      rw [List.length_append] at this
      have h1 : [(n, ss)].length = 1 := rfl
      omega
    subst hi2
    rw [List.getElem?_append_right (Nat.le_refl _), Nat.sub_self] at h
    cases h
    rw [List.take_append_of_le_length (Nat.le_refl _), List.take_length]
    exact ⟨h1, h2, h3, h4⟩
def RowAt (H : Hp) (v : V) (r : Row2) : Prop := ∃ t s, v = .ref t ∧ H t = some (.tup [.str r.1, .ref s]) ∧ H s = some (.tup (r.2.map V.str))
def RowsAre (H : Hp) : List V → List Row2 → Prop := Paired (RowAt H)
theorem RowAt.same {H H' : Hp} (s : Same H H') {v : V} {r : Row2} (h : RowAt H v r) : RowAt H' v r := by
  obtain ⟨t, u, e, h1, h2⟩ := h
  exact ⟨t, u, e, s _ _ h1, s _ _ h2⟩
theorem RowsAre.same {H H' : Hp} (s : Same H H') {vs : List V} {rows : List Row2} (h : RowsAre H vs rows) : RowsAre H' vs rows :=
  Paired.mapP h fun _ _ z => z.same s
/-- what is no list stays through a draw -/
theorem tup_but {H H' : Hp} {p t : Addr} {xs : List V} (hp : PotAt H p) (b : But p H H') (h : H t = some (.tup xs)) : H' t = some (.tup xs) := by
  obtain ⟨r, g, e, _⟩ := hp
  exact b _ _ (ne_of h e (by intro z; cases z)) h
theorem RowAt.but {H H' : Hp} {p : Addr} (hp : PotAt H p) (b : But p H H') {v : V} {r : Row2} (h : RowAt H v r) : RowAt H' v r := by
  obtain ⟨t, u, e, h1, h2⟩ := h
  exact ⟨t, u, e, tup_but hp b h1, tup_but hp b h2⟩
theorem RowsAre.but {H H' : Hp} {p : Addr} (hp : PotAt H p) (b : But p H H') {vs : List V} {rows : List Row2} (h : RowsAre H vs rows) : RowsAre H' vs rows :=
  Paired.mapP h fun _ _ z => z.but hp b
theorem RowsAre.length {H : Hp} {vs : List V} {rows : List Row2} (h : RowsAre H vs rows) : vs.length = rows.length := Paired.length h
theorem RowsAre.snoc {H : Hp} : ∀ {vs : List V} {rows : List Row2} {v : V} {r : Row2}, RowsAre H vs rows → RowAt H v r → RowsAre H (vs ++ [v]) (rows ++ [r])
  | _, _, _, _, .nil, h => .cons h .nil
  | _, _, _, _, .cons a b, h => .cons a (RowsAre.snoc b h)
theorem RowsAre.get {H : Hp} : ∀ {vs : List V} {rows : List Row2} {i : Nat} {v : V}, RowsAre H vs rows → vs[i]? = some v → ∃ r, rows[i]? = some r ∧ RowAt H v r
  | _, _, _, _, .nil, e => by simp at e
  | _, _, 0, _, .cons a _, e => by
    simp at e
    subst e
    exact ⟨_, rfl, a⟩
  | _, _, i + 1, v, .cons _ b, e => by
    obtain ⟨r, h1, h2⟩ := RowsAre.get (i := i) (v := v) b (by simpa using e)
    exact ⟨r, by simpa using h1, h2⟩
theorem RowAt.wr {H : Hp} {R : Addr} {xs : List V} {o : HO} (h : H R = some (.lst xs)) {v : V} {r : Row2} (a : RowAt H v r) : RowAt (upd H R o) v r := by
  obtain ⟨t, u, e, h1, h2⟩ := a
  exact ⟨t, u, e, by rw [upd_ne (ne_of h1 h (by intro z; cases z))]; exact h1, by rw [upd_ne (ne_of h2 h (by intro z; cases z))]; exact h2⟩
theorem RowsAre.wr {H : Hp} {R : Addr} {xs : List V} {o : HO} (h : H R = some (.lst xs)) {vs : List V} {rows : List Row2} (a : RowsAre H vs rows) : RowsAre (upd H R o) vs rows :=
  Paired.mapP a fun _ _ z => z.wr h
theorem fsts_snoc (rows : List Row2) (n : Str) (ss : List Str) : fsts (rows ++ [(n, ss)]) = fsts rows ++ [n] := by
  unfold fsts
  rw [List.map_append]
  rfl
/-! ### permuted texts -/
def unStr : V → Option Str
  | .str x => some x
  | _ => none
theorem unStr_map : ∀ ns : List Str, (ns.map V.str).filterMap unStr = ns
  | [] => rfl
  | n :: r => by
    show n :: (r.map V.str).filterMap unStr = n :: r
    rw [unStr_map r]
theorem map_unStr : ∀ ys : List V, (∀ y ∈ ys, ∃ x, y = .str x) → ys = (ys.filterMap unStr).map V.str
  | [], _ => rfl
  | y :: r, h => by
    obtain ⟨x, rfl⟩ := h y (List.mem_cons_self ..)
    have ih := map_unStr r fun z hz => h z (List.mem_cons_of_mem _ hz)
    show V.str x :: r = V.str x :: (r.filterMap unStr).map V.str
    rw [← ih]
theorem perm_strs {ys : List V} {ns : List Str} (h : ys.Perm (ns.map V.str)) : ∃ ms : List Str, ys = ms.map V.str ∧ ms.Perm ns := by
  refine ⟨ys.filterMap unStr, map_unStr ys fun y hy => ?_, ?_⟩
  · obtain ⟨x, _, e⟩ := List.mem_map.mp (h.mem_iff.mp hy)
    exact ⟨x, e.symm⟩
  · have := h.filterMap unStr
    rw [unStr_map] at this
    exact this
/-! ### letters that are left -/
theorem inV_strs (y : Str) : ∀ xs : List Str, inV (.str y) (xs.map V.str) = decide (y ∈ xs)
  | [] => rfl
  | x :: r => by
    have ih := inV_strs y r
    show (eqV (.str x) (.str y) || inV (.str y) (r.map V.str)) = _
    rw [ih]
    show ((x == y) || decide (y ∈ r)) = decide (y ∈ x :: r)
    by_cases e : x = y
    · subst e
      simp
    · have e2 : (x == y) = false := beq_eq_false_iff_ne.mpr e
      rw [e2, Bool.false_or]
      by_cases h : y ∈ r
      · rw [decide_eq_true h, decide_eq_true (List.mem_cons_of_mem _ h)]
      · rw [decide_eq_false h, decide_eq_false (fun z => by
          rcases List.mem_cons.mp z with z | z
          · exact e z.symm
          · exact h z)]
theorem flats : ∀ xs : List Str, (xs.map V.str).all flatV = true
  | [] => rfl
  | x :: r => by
    show (flatV (.str x) && (r.map V.str).all flatV) = true
    rw [flats r]
    rfl
theorem filter_one {α : Type} [DecidableEq α] (f : α) : ∀ {L : List α}, L.Nodup → L.length ≤ (L.filter fun y => decide (y ≠ f)).length + 1
  | [], _ => Nat.zero_le _
  | x :: r, h => by
    obtain ⟨h1, h2⟩ := List.nodup_cons.mp h
    by_cases e : x = f
    · subst e
      have e2 : r.filter (fun y => decide (y ≠ x)) = r := List.filter_eq_self.mpr fun y hy => decide_eq_true fun z => h1 (z ▸ hy)
      rw [List.filter_cons_of_neg (by simp), e2]
      exact Nat.le_refl _
    · have ih := filter_one f h2
      rw [List.filter_cons_of_pos (by simpa using e), List.length_cons, List.length_cons]
      omega
theorem filter_left {α : Type} [DecidableEq α] : ∀ (F : List α) {L : List α}, L.Nodup → L.length ≤ (L.filter fun y => decide (y ∉ F)).length + F.length
  | [], L, h => by
    have : L.filter (fun y => decide (y ∉ ([] : List α))) = L := List.filter_eq_self.mpr fun y _ => by simp
    rw [this]
    exact Nat.le_add_right _ _
  | f :: F, L, h => by
    have ih := filter_left F h
    have h2 : (L.filter fun y => decide (y ∉ F)).Nodup := h.filter _
    have h3 := filter_one f h2
    have e : (L.filter fun y => decide (y ∉ F)).filter (fun y => decide (y ≠ f)) = L.filter fun y => decide (y ∉ f :: F) := by
      rw [List.filter_filter]
      refine List.filter_congr fun y _ => ?_
      by_cases a : y = f <;> by_cases b : y ∈ F <;> simp [a, b]
    rw [e] at h3
    rw [List.length_cons]
    omega
def letters : List Str := az.map fun c => ⟨#[c]⟩
theorem letters_nodup : letters.Nodup := by decide +kernel
theorem letters_len : letters.length = 26 := by decide +kernel
theorem letter_name : ∀ y ∈ letters, nameV (.str y) = true := by decide +kernel
theorem cut_take {xs : List V} {k : Nat} : cutV xs none (some (k : Int)) = xs.take k := by
  unfold cutV
  rw [HT.sIx_none, HT.sIx_nat, Nat.sub_zero, List.drop_zero]
  by_cases h : k ≤ xs.length
  · rw [Nat.min_eq_left h]
  · rw [Nat.min_eq_right (by omega), List.take_length, List.take_of_length_le (by omega)]
end Kv
/-! for i, x in enumerate(t), t a tuple. -/
namespace Kv
open PySem PySem.Spec PyProof.Rows L2
open AutoSeq1 (wpAny_loadPart')
/-- a tuple's iterator, an enumerate over it -/
abbrev tupIt (t : Addr) : Obj := { cls := .type "tuple_iterator", data := .fields #[.ref t, .int 0 0] }
abbrev enumOf (it : Addr) : Obj := { cls := .type "enumerate", data := .fields #[.none, .bool false, .ref it, rawInt 0, .none, .none] }
set_option maxHeartbeats 1000000 in
theorem enum_new (t : Addr) (items : Array Value) (n : Nat) (dct : Option Addr) (sl : Array (Option Value)) :
    Meets (Builtin.«enumerate.__new__» ⟨[.type "enumerate", .ref t], []⟩) (fun _ R s =>
      s.heap.get? t = some { cls := .type "tuple", dict := dct, data := .seq items n, slots := sl } ∧
      R (.ok (.ret (.ref (s.heap.push (tupIt t)).objs.size)))
        { s with heap := (s.heap.push (tupIt t)).push (enumOf s.heap.objs.size) }) :=
  .of_wp fun prog w A R s h => by
    obtain ⟨hp, g, d, tk, os⟩ := s
    obtain ⟨hl, h⟩ := h
    have hsub := sub_enumerate
    have hT : Heap.IsTuple (Shared.heap ⟨hp, g, d, tk, os⟩) t items :=
      ⟨_, hl, rfl, n, rfl⟩
    wp_walk using wpAny_loadPart' hl
    refine wpAny_stack_any fun st =>
      wpAny_pure ?_
    split
    · rename_i c _ _ _ _ _
      cases (c == Value.type "enumerate") <;>
        (wp_walk using wpAny_loadPart' hl, wpAny_pyIter_tuple hT
         exact ⟨_, rfl, h⟩)
    · wp_walk using wpAny_loadPart' hl, wpAny_pyIter_tuple hT
      exact ⟨_, rfl, h⟩
section
variable {prog : Program} {w : World} {A : Around} {E : Value → Shared → Prop} {s : Shared}
theorem enum_call {t : Addr} {items : Array Value} {Q : Value → Shared → Prop} (hL : s.heap.IsTuple t items)
    (h : ∀ h2, IsEnum h2 (s.heap.objs.size + 1) s.heap.objs.size 0 .none → h2.IsTupleIter s.heap.objs.size t 0 →
      (∀ b o, s.heap.get? b = some o → h2.get? b = some o) →
      Q (.ref (s.heap.objs.size + 1)) { s with heap := h2 }) :
    wpAny (model prog w) A (call (.type "enumerate") [.ref t]) Q E s := by
  obtain ⟨⟨c, dct, dt, sl⟩, hl, hc, n, hd⟩ := hL
  obtain rfl : c = .type "tuple" := hc
  obtain rfl : dt = .seq items n := hd
  refine callType_new F.called_enumerate (by decide) (F.typeCall_enumerate_1 _) (F.newCall_enumerate_1 _)
    (fun obj => F.args_object_init_2 obj _) F.entry_enumerate_new (enum_new t items n dct sl) ⟨hl, ?_⟩
  have hz : (s.heap.push (tupIt t)).objs.size = s.heap.objs.size + 1 := Heap.size_push ..
  show _ ∧ _
  rw [hz]
  have he : IsEnum ((s.heap.push (tupIt t)).push (enumOf s.heap.objs.size)) (s.heap.objs.size + 1) s.heap.objs.size 0 .none := by
    have q := Heap.get?_push_size (s.heap.push (tupIt t)) (o := enumOf s.heap.objs.size) rfl
    rw [hz] at q
    exact q
  refine ⟨⟨_, he, rfl⟩, h _ he ?_ ?_⟩
  · exact ⟨_, Heap.get?_push_of_some _ (Heap.get?_push_size _ rfl), rfl, rfl⟩
  · intro b o x
    exact Heap.get?_push_of_some _ (Heap.get?_push_of_some _ x)
end
/-- the tuple at a as it stands, its items in new pairs -/
def Itet (K : PySem.W.Frag) (a : Addr) : It :=
  ⟨fun i H => ∃ (xs : List V) (x : V), SqT K H a xs ∧ xs[i]? = some x,
   fun i H v H' => ∃ T x, v = .ref T ∧ H T = none ∧ H' = upd H T (.tup [.int (i : Nat), x]) ∧
     ∀ xs, SqT K H a xs → xs[i]? = some x,
   fun i H => ∃ xs : List V, SqT K H a xs ∧ xs.length = i⟩
theorem turn_enumT {P : Program} {w : World} {K : PySem.W.Frag} {elts : List Expr} {kk : Nat} {tpos : Pos} (a e it : Addr) :
    Turn P w K (.Tuple elts kk tpos) (Itet K a) [e, it] e
      (fun i h => (∃ old, IsEnum h e it ((i : Nat) : Int) old) ∧ h.IsTupleIter it a i ∧ e ≠ it ∧ a ≠ it ∧ a ≠ e) where
  mem := by simp
  obj := by
    intro i h st b hb
    obtain ⟨⟨old, he⟩, ⟨o, ho, hc, hd⟩, _⟩ := st
    rcases List.mem_cons.mp hb with z | z
    · rw [z]
      exact ⟨_, he, fun v q => nomatch q⟩
    · rw [List.mem_singleton.mp z]
      exact ⟨o, ho, fun v q => by rw [hd] at q; cases q⟩
  keep := by
    intro i h h2 st k
    obtain ⟨⟨old, he⟩, hi, ne⟩ := st
    exact ⟨⟨old, k e (by simp) _ he⟩, hi.at fun o q => k it (by simp) o q, ne⟩
  item := by
    intro X hP hw hK hc i pins s σ H E I hf st hg
    subst hP hw hK
    obtain ⟨⟨old, he⟩, hit, hne, nai, nae⟩ := st
    obtain ⟨xs, x, hq, hx⟩ := hg
    obtain ⟨its, rv, p, hz⟩ := I.tuple hq
    obtain ⟨u, hu, ru⟩ := rv.get hx
    have lte : e < s.heap.objs.size := Heap.lt_size he
    have lti : it < s.heap.objs.size := by
      obtain ⟨_, q, _⟩ := hit
      exact Heap.lt_size q
    have hil : i < its.toArray.size := by
      rw [List.size_toArray]
      exact (List.getElem?_eq_some_iff.mp hu).1
    refine wpAny_pyNext_enum_itemD (Draws.tuple (A := X.A.in1) (I.ok.hd hc) it a nai its.toArray) he ⟨hit, p⟩ hil hne ?_ ?_
    · intro z
      rcases List.mem_cons.mp z with y | y
      · exact hne y
      · exact nae (List.mem_singleton.mp y).symm
    intro y h2 tk hy ho hit2 hT hsz hk
    obtain rfl : y = u := by
      have hy2 : its.toArray[i]? = some y := hy
      have hu2 : its.toArray[i]? = some u := by simpa using hu
      rw [hu2] at hy2
      exact (Option.some.inj hy2).symm
    refine ⟨_, rfl, wpAny_letOwnedTupleGo_enum (s := { s with heap := h2, toks := tk + 1 }) ho ?_⟩
    intro h3 he3 sb
    have hT3 : h3.get? s.heap.objs.size = some { cls := .type "tuple", data := .seq #[.int i tk, y] } :=
      (sb.2 _ (Nat.ne_of_gt lte)).trans hT
    have new : ObjOk X.prog X.w (upd H s.heap.objs.size (.tup [.int (i : Nat), x])) h3 s.heap.objs.size (.tup [.int (i : Nat), x]) := by
      refine ⟨(by decide : 2 ≤ sizeLine), [.int i tk, y], .cons ⟨_, rfl⟩ (.cons ru .nil), ?_⟩
      exact ⟨_, hT3, rfl, _, rfl⟩
    have I1 : Inv X pins σ (upd H s.heap.objs.size (.tup [.int (i : Nat), x])) { s with heap := h3, toks := tk + 1 } := by
      refine I.turnedNew (ch := [e, it]) ?_ hf (Nat.le_refl _) new
      intro b ob hb q
      have nb1 : b ≠ e := fun z => hb (by simp [z])
      have nb2 : b ≠ it := fun z => hb (by simp [z])
      exact (sb.2 b nb1).trans (hk b ob nb1 nb2 q)
    refine ⟨.ref s.heap.objs.size, _, I1, rfl, ⟨_, x, rfl, I.hok.fresh (Nat.le_refl _), rfl, ?_⟩, ⟨⟨y, ?_⟩, ?_, hne, nai, nae⟩, ?_⟩
    · intro ys hys
      rw [I.tuple_inj hys hq]
      exact hx
    · have e1 : ((i + 1 : Nat) : Int) = (i : Int) + 1 := by omega
      rw [e1]
      exact he3
    · exact hit2.1.at fun o q => (sb.2 it (Ne.symm hne)).trans q
    · intro b hb
      have lb : b < s.heap.objs.size := by
        rcases List.mem_cons.mp hb with z | z
        · rw [z]
          exact lte
        · rw [List.mem_singleton.mp z]
          exact lti
      rw [upd_ne (Nat.ne_of_lt lb)]
      exact (hf b hb).1
  done := by
    intro X hP hw hK hc i pins s σ H E I hf st hg
    subst hP hw hK
    obtain ⟨⟨old, he⟩, hit, hne, nai, nae⟩ := st
    obtain ⟨xs, hq, hx⟩ := hg
    obtain ⟨its, rv, p, hz⟩ := I.tuple hq
    obtain ⟨f0, f1, f2, f3, f4, f5⟩ := hf it (by simp)
    have hl := rv.length
    have ei : its.toArray.size = i := by
      rw [List.size_toArray, ← hl]
      exact hx
    refine wpAny_pyNext_enum_endD (Draws.tuple (A := X.A.in1) (I.ok.hd hc) it a nai its.toArray) he ⟨?_, p⟩ ?_
    · rw [ei]
      exact hit
    · intro h2 eb
      exact ⟨rfl, I.turned (t' := s.toks) (fun b o hb q => eb b o hb q) f0 f1 f3 f4 f5⟩
  self := by
    intro A i s Q E st h
    obtain ⟨⟨_, he⟩, _⟩ := st
    exact wpAny_pyIter_enum he h
/-- enumerate of a list or of a tuple -/
def iEnumS (K : PySem.W.Frag) (ta : TA) : TI := fun σ H R => ta σ H fun vs H1 =>
  (∃ a xs, vs = [.ref a] ∧ SqL K H1 a xs ∧ R (Ite K a) H1) ∨ ∃ a xs, vs = [.ref a] ∧ SqT K H1 a xs ∧ R (Itet K a) H1
theorem pi_enumS {X : Cx} {e : Expr} {ta : TA} {p pos tpos : Pos} {elts : List Expr} {kk : Nat} (hg : Gl X "enumerate")
    (hm : X.mg "enumerate" = none) (ha : PA X [e] ta) (hs : starEach [e] X.env = [(false, eval e X.env)] := by rfl) :
    PI X (.Tuple elts kk tpos) (.Call (.Name "enumerate" p) [e] [] pos) (iEnumS X.K ta) := by
  constructor
  intro pins s σ H R I h
  refine Call_ (ld_blt I hg hm boot_enumerate (PyProof.Rows.callWith_type1
    (thn (ha.run pos pins s σ H _ I h) fun us s1 ⟨vs, H1, I1, r1, q1⟩ => ?_) hs rfl))
  have fresh : ∀ b ∈ [s1.heap.objs.size + 1, s1.heap.objs.size], FpOk X pins H1 b := by
    intro b hb
    have le : s1.heap.objs.size ≤ b := by
      rcases List.mem_cons.mp hb with z | z
      · rw [z]
        exact Nat.le_succ _
      · rw [List.mem_singleton.mp z]
        exact Nat.le_refl _
    exact I1.fpOk le (I1.hok.fresh le)
  rcases q1 with ⟨a, xs, rfl, hq, q⟩ | ⟨a, xs, rfl, hq, q⟩
  · cases r1 with
    | cons r rr =>
      cases rr
      cases r
      obtain ⟨its, rv, pl, hz⟩ := I1.list hq
      refine call_enumerate_list pl.isList fun h2 he hit hsz hk => wpAny_pyIter_enum he ?_
      exact ⟨s1.heap.objs.size + 1, [s1.heap.objs.size + 1, s1.heap.objs.size], _, _, H1, rfl, I1.kept (t' := s1.toks) hk,
        turn_enum a (s1.heap.objs.size + 1) s1.heap.objs.size, ⟨⟨.none, he⟩, hit, Nat.succ_ne_self _⟩, fresh, q⟩
  · cases r1 with
    | cons r rr =>
      cases rr
      cases r
      obtain ⟨its, rv, pl, hz⟩ := I1.tuple hq
      have lta : a < s1.heap.objs.size := by
        obtain ⟨o, ho, _⟩ := pl
        exact Heap.lt_size ho
      refine enum_call pl fun h2 he hit hk => wpAny_pyIter_enum he ?_
      exact ⟨s1.heap.objs.size + 1, [s1.heap.objs.size + 1, s1.heap.objs.size], _, _, H1, rfl, I1.kept (t' := s1.toks) hk,
        turn_enumT a (s1.heap.objs.size + 1) s1.heap.objs.size,
        ⟨⟨.none, he⟩, hit, Nat.succ_ne_self _, Nat.ne_of_lt lta, Nat.ne_of_lt (Nat.lt_succ_of_lt lta)⟩, fresh, q⟩
end Kv
/-! The classes above a class, as a hierarchy keeps them. -/
namespace Kv
open PySem PySem.Spec PyProof.Rows L2
/-- a dict of texts, each with True -/
def flag (as : List Str) : List (Key × V) := as.map fun a => (Sum.inr a, V.bl true)
def addA (acc : List Str) (a : Str) : List Str := if a ∈ acc then acc else acc ++ [a]
def addAll (acc as : List Str) : List Str := as.foldl addA acc
abbrev Tab := List (Str × List Str)
def look (tab : Tab) (x : Str) : List Str := (tab.lookup x).getD []
def ancOf (tab : Tab) (n : Str) (ss : List Str) : List Str := ss.foldl (fun acc s => addAll acc (look tab s)) [n]
def tabKeys (tab : Tab) : List Str := tab.map (·.1)
def ancTab (rows : List Row2) : Tab := rows.foldl (fun tab r => tab ++ [(r.1, ancOf tab r.1 r.2)]) []
theorem keyr_ne {a b : Str} (h : a ≠ b) : ¬ ((Sum.inr a : Key) = Sum.inr b) := fun z => h (Sum.inr.inj z)
theorem valV_flag (a : Str) : ∀ as : List Str, valV (flag as) (Sum.inr a : Key) = if a ∈ as then some (.bl true) else none
  | [] => rfl
  | x :: r => by
    have ih := valV_flag a r
    show valV (((Sum.inr x : Key), V.bl true) :: flag r) _ = _
    by_cases e : x = a
    · subst e
      rw [valV_pos rfl, if_pos (List.mem_cons_self ..)]
    · rw [valV_neg (keyr_ne e), ih]
      by_cases h : a ∈ r
      · rw [if_pos h, if_pos (List.mem_cons_of_mem _ h)]
      · rw [if_neg h, if_neg (fun z => by
          rcases List.mem_cons.mp z with z | z
          · exact e z.symm
          · exact h z)]
theorem flag_map (a : Str) : ∀ as : List Str, (flag as).map (fun kv => if kv.1 = (Sum.inr a : Key) then (kv.1, V.bl true) else kv) = flag as
  | [] => rfl
  | x :: r => by
    show (if (Sum.inr x : Key) = Sum.inr a then ((Sum.inr x : Key), V.bl true) else ((Sum.inr x : Key), V.bl true)) :: (flag r).map _ = ((Sum.inr x : Key), V.bl true) :: flag r
    rw [flag_map a r]
    split <;> rfl
theorem put_flag (acc : List Str) (a : Str) : putK (flag acc) (Sum.inr a : Key) (.bl true) = flag (addA acc a) := by
  unfold putK addA
  rw [valV_any, valV_flag]
  by_cases h : a ∈ acc
  · rw [if_pos h, if_pos h]
    rw [if_pos (by rfl : (some (V.bl true)).isSome = true)]
    exact flag_map a acc
  · rw [if_neg h, if_neg h]
    show (if (none : Option V).isSome = true then _ else _) = _
    rw [if_neg (by simp)]
    unfold flag
    rw [List.map_append]
    rfl
theorem flag_len (as : List Str) : (flag as).length = as.length := List.length_map _
theorem addA_nodup {acc : List Str} {a : Str} (h : acc.Nodup) : (addA acc a).Nodup := by
  unfold addA
  split
  · exact h
  · rename_i hn
    rw [List.nodup_append]
    refine ⟨h, List.pairwise_singleton _ _, fun x hx y hy => ?_⟩
    rw [List.mem_singleton.mp hy]
    rintro rfl
    exact hn hx
theorem mem_addA {acc : List Str} {a x : Str} : x ∈ addA acc a ↔ x ∈ acc ∨ x = a := by
  unfold addA
  split
  · rename_i h
    constructor
    · exact Or.inl
    · rintro (z | rfl)
      · exact z
      · exact h
  · rw [List.mem_append, List.mem_singleton]
theorem addAll_snoc (acc as : List Str) (a : Str) : addAll acc (as ++ [a]) = addA (addAll acc as) a := by
  unfold addAll
  rw [List.foldl_append]
  rfl
theorem addAll_take {as : List Str} {i : Nat} {a : Str} (acc : List Str) (h : as[i]? = some a) : addAll acc (as.take (i + 1)) = addA (addAll acc (as.take i)) a := by
  rw [List.take_add_one, h]
  exact addAll_snoc ..
theorem addAll_nodup : ∀ {as acc : List Str}, acc.Nodup → (addAll acc as).Nodup
  | [], _, h => h
  | a :: r, acc, h => addAll_nodup (as := r) (addA_nodup h)
theorem mem_addAll {x : Str} : ∀ {as acc : List Str}, x ∈ addAll acc as ↔ x ∈ acc ∨ x ∈ as
  | [], acc => by
    show x ∈ acc ↔ _
    simp
  | a :: r, acc => by
    show x ∈ addAll (addA acc a) r ↔ _
    rw [mem_addAll, mem_addA, List.mem_cons]
    constructor
    · rintro ((z | z) | z)
      · exact Or.inl z
      · exact Or.inr (Or.inl z)
      · exact Or.inr (Or.inr z)
    · rintro (z | z | z)
      · exact Or.inl (Or.inl z)
      · exact Or.inl (Or.inr z)
      · exact Or.inr z
/-- the classes found behind i superclasses -/
def ancAt (tab : Tab) (n : Str) (ss : List Str) (i : Nat) : List Str := ancOf tab n (ss.take i)
theorem ancAt_next {tab : Tab} {n : Str} {ss : List Str} {i : Nat} {s : Str} (h : ss[i]? = some s) : ancAt tab n ss (i + 1) = addAll (ancAt tab n ss i) (look tab s) := by
  unfold ancAt ancOf
  rw [List.take_add_one, h, List.foldl_append]
  rfl
theorem ancOf_nodup {tab : Tab} {n : Str} {ss : List Str} : (ancOf tab n ss).Nodup := by
  unfold ancOf
  have : ∀ (l acc : List Str), acc.Nodup → (l.foldl (fun acc s => addAll acc (look tab s)) acc).Nodup := by
    intro l
    induction l with
    | nil => intro acc h; exact h
    | cons a r ih => intro acc h; exact ih _ (addAll_nodup h)
  exact this ss [n] (List.pairwise_singleton _ _)
theorem mem_ancOf {tab : Tab} {n x : Str} {ss : List Str} : x ∈ ancOf tab n ss ↔ x = n ∨ ∃ s ∈ ss, x ∈ look tab s := by
  have : ∀ (l acc : List Str), x ∈ l.foldl (fun acc s => addAll acc (look tab s)) acc ↔ x ∈ acc ∨ ∃ s ∈ l, x ∈ look tab s := by
    intro l
    induction l with
    | nil => intro acc; simp
    | cons a r ih =>
      intro acc
      show x ∈ r.foldl _ (addAll acc (look tab a)) ↔ _
      rw [ih, mem_addAll]
      constructor
      · rintro ((z | z) | ⟨s, hs, z⟩)
        · exact Or.inl z
        · exact Or.inr ⟨a, List.mem_cons_self .., z⟩
        · exact Or.inr ⟨s, List.mem_cons_of_mem _ hs, z⟩
      · rintro (z | ⟨s, hs, z⟩)
        · exact Or.inl (Or.inl z)
        · rcases List.mem_cons.mp hs with rfl | hs
          · exact Or.inl (Or.inr z)
          · exact Or.inr ⟨s, hs, z⟩
  unfold ancOf
  rw [this, List.mem_singleton]
/-- each entry holds known classes -/
def TabOk (tab : Tab) : Prop := ∀ (x : Str) (as : List Str), (x, as) ∈ tab → as.Nodup ∧ ∀ a ∈ as, a ∈ tabKeys tab
theorem mem_look {tab : Tab} : ∀ {x : Str}, x ∈ tabKeys tab → (x, look tab x) ∈ tab := by
  induction tab with
  | nil => intro x h; cases h
  | cons p r ih =>
    intro x h
    obtain ⟨y, as⟩ := p
    unfold look
    rw [List.lookup_cons]
    by_cases e : x = y
    · subst e
      rw [beq_self_eq_true]
      exact List.mem_cons_self ..
    · rw [beq_eq_false_iff_ne.mpr e]
      refine List.mem_cons_of_mem _ (ih ?_)
      rcases List.mem_cons.mp h with z | z
      · exact absurd z e
      · exact z
theorem look_none {tab : Tab} : ∀ {x : Str}, x ∉ tabKeys tab → look tab x = [] := by
  induction tab with
  | nil => intro x _; rfl
  | cons p r ih =>
    intro x h
    obtain ⟨y, as⟩ := p
    have h1 : x ≠ y := fun z => h (z ▸ List.mem_cons_self ..)
    have h2 := ih (x := x) fun z => h (List.mem_cons_of_mem _ z)
    unfold look at h2 ⊢
    rw [List.lookup_cons, beq_eq_false_iff_ne.mpr h1]
    exact h2
theorem look_sub {tab : Tab} (ok : TabOk tab) {x a : Str} (h : a ∈ look tab x) : a ∈ tabKeys tab := by
  by_cases hx : x ∈ tabKeys tab
  · exact (ok _ _ (mem_look hx)).2 a h
  · rw [look_none hx] at h
    cases h
theorem nodup_le {L F : List Str} (h : L.Nodup) (s : ∀ x ∈ L, x ∈ F) : L.length ≤ F.length := by
  have := filter_left F h
  have e : L.filter (fun y => decide (y ∉ F)) = [] := List.filter_eq_nil_iff.mpr fun y hy => by simpa using s y hy
  rw [e] at this
  have z : ([] : List Str).length = 0 := rfl
  omega
theorem TabOk.snoc {tab : Tab} (ok : TabOk tab) (n : Str) (ss : List Str) : TabOk (tab ++ [(n, ancOf tab n ss)]) := by
  intro x as h
  have ek : tabKeys (tab ++ [(n, ancOf tab n ss)]) = tabKeys tab ++ [n] := by
    unfold tabKeys
    rw [List.map_append]
    rfl
  rw [ek]
  rcases List.mem_append.mp h with z | z
  · obtain ⟨h1, h2⟩ := ok x as z
    exact ⟨h1, fun a ha => List.mem_append_left _ (h2 a ha)⟩
  · have := List.mem_singleton.mp z
    cases this
    refine ⟨ancOf_nodup, fun a ha => ?_⟩
    rcases mem_ancOf.mp ha with rfl | ⟨s, _, hs⟩
    · exact List.mem_append_right _ (List.mem_singleton.mpr rfl)
    · exact List.mem_append_left _ (look_sub ok hs)
theorem tabOk_nil : TabOk [] := fun x as h => by cases h
theorem ancTab_snoc (rows : List Row2) (r : Row2) : ancTab (rows ++ [r]) = ancTab rows ++ [(r.1, ancOf (ancTab rows) r.1 r.2)] := by
  unfold ancTab
  rw [List.foldl_append]
  rfl
theorem ancTab_take {rows : List Row2} {i : Nat} {r : Row2} (h : rows[i]? = some r) : ancTab (rows.take (i + 1)) = ancTab (rows.take i) ++ [(r.1, ancOf (ancTab (rows.take i)) r.1 r.2)] := by
  rw [List.take_add_one, h]
  exact ancTab_snoc ..
theorem ancTab_ok (rows : List Row2) : ∀ i, TabOk (ancTab (rows.take i))
  | 0 => tabOk_nil
  | i + 1 => by
    cases h : rows[i]? with
    | none =>
      rw [List.take_add_one, h]
      show TabOk (ancTab (rows.take i ++ []))
      rw [List.append_nil]
      exact ancTab_ok rows i
    | some r =>
      rw [ancTab_take h]
      exact (ancTab_ok rows i).snoc _ _
theorem ancTab_keys (rows : List Row2) : tabKeys (ancTab rows) = fsts rows := by
  have : ∀ (l : List Row2) (tab : Tab), tabKeys (l.foldl (fun tab r => tab ++ [(r.1, ancOf tab r.1 r.2)]) tab) = tabKeys tab ++ fsts l := by
    intro l
    induction l with
    | nil =>
      intro tab
      show tabKeys tab = tabKeys tab ++ []
      rw [List.append_nil]
    | cons r l ih =>
      intro tab
      show tabKeys (l.foldl _ (tab ++ [(r.1, ancOf tab r.1 r.2)])) = _
      rw [ih]
      unfold tabKeys fsts
      rw [List.map_append, List.append_assoc]
      rfl
  exact this rows []
/-! ### in the heap -/
def EntryAt (H : Hp) (kv : Key × V) (na : Str × List Str) : Prop := kv.1 = Sum.inr na.1 ∧ ∃ d, kv.2 = .ref d ∧ H d = some (.dK (flag na.2))
def Entries (H : Hp) : List (Key × V) → Tab → Prop := Paired (EntryAt H)
theorem Entries.mono {H H' : Hp} {kvs : List (Key × V)} {tab : Tab} (h : Entries H kvs tab) (k : ∀ d as, H d = some (.dK (flag as)) → H' d = some (.dK (flag as))) : Entries H' kvs tab :=
  Paired.mapP h fun _ _ ⟨e1, d, e2, e3⟩ => ⟨e1, d, e2, k d _ e3⟩
theorem Entries.look {H : Hp} : ∀ {kvs : List (Key × V)} {tab : Tab} {x : Str}, Entries H kvs tab → x ∈ tabKeys tab → ∃ d, valV kvs (Sum.inr x : Key) = some (.ref d) ∧ H d = some (.dK (flag (look tab x)))
  | _, _, _, .nil, h => by cases h
  | p :: _, (y, as) :: r, x, .cons ⟨e1, d, e2, e3⟩ t, h => by
    by_cases e : x = y
    · subst e
      refine ⟨d, ?_, ?_⟩
      · rw [valV_pos e1, e2]
      · unfold Kv.look
        rw [List.lookup_cons, beq_self_eq_true]
        exact e3
    · have hx : x ∈ tabKeys r := by
        rcases List.mem_cons.mp h with z | z
        · exact absurd z e
        · exact z
      obtain ⟨d2, g1, g2⟩ := Entries.look t hx
      refine ⟨d2, ?_, ?_⟩
      · rw [valV_neg (fun z => e (Sum.inr.inj (e1.symm.trans z)).symm)]
        exact g1
      · unfold Kv.look at g2 ⊢
        rw [List.lookup_cons, beq_eq_false_iff_ne.mpr e]
        exact g2
theorem Entries.none {H : Hp} : ∀ {kvs : List (Key × V)} {tab : Tab} {x : Str}, Entries H kvs tab → x ∉ tabKeys tab → valV kvs (Sum.inr x : Key) = none
  | _, _, _, .nil, _ => rfl
  | p :: _, (y, as) :: r, x, .cons ⟨e1, d, e2, e3⟩ t, h => by
    rw [valV_neg (fun z => h (by
      have : y = x := Sum.inr.inj (e1.symm.trans z)
      rw [this]
      exact List.mem_cons_self ..))]
    exact Entries.none t fun z => h (List.mem_cons_of_mem _ z)
theorem Entries.snoc {H : Hp} : ∀ {kvs : List (Key × V)} {tab : Tab} {kv : Key × V} {na : Str × List Str}, Entries H kvs tab → EntryAt H kv na → Entries H (kvs ++ [kv]) (tab ++ [na])
  | _, _, _, _, .nil, h => .cons h .nil
  | _, _, _, _, .cons a b, h => .cons a (Entries.snoc b h)
theorem Entries.length {H : Hp} {kvs : List (Key × V)} {tab : Tab} (h : Entries H kvs tab) : kvs.length = tab.length := Paired.length h
/-- the places -/
def placeKV (ns : List Str) : List (Key × V) := ns.zipIdx.map fun p => (Sum.inr p.1, V.int p.2)
theorem place_len (ns : List Str) : (placeKV ns).length = ns.length := by
  unfold placeKV
  rw [List.length_map, List.length_zipIdx]
theorem place_snoc (ns : List Str) (n : Str) : placeKV (ns ++ [n]) = placeKV ns ++ [(Sum.inr n, .int ns.length)] := by
  unfold placeKV
  rw [List.zipIdx_append, List.map_append]
  simp
theorem place_val (x : Str) : ∀ (ns : List Str), (valV (placeKV ns) (Sum.inr x : Key)).isSome = decide (x ∈ ns) := by
  intro ns
  unfold placeKV
  have : ∀ (l : List Str) (k : Nat), (valV ((l.zipIdx k).map fun p => ((Sum.inr p.1 : Key), V.int p.2)) (Sum.inr x : Key)).isSome = decide (x ∈ l) := by
    intro l
    induction l with
    | nil => intro k; rfl
    | cons y r ih =>
      intro k
      rw [List.zipIdx_cons, List.map_cons]
      by_cases e : y = x
      · subst e
        rw [valV_pos rfl, decide_eq_true (List.mem_cons_self ..)]
        rfl
      · rw [valV_neg (keyr_ne e), ih]
        by_cases h : x ∈ r
        · rw [decide_eq_true h, decide_eq_true (List.mem_cons_of_mem _ h)]
        · rw [decide_eq_false h, decide_eq_false (fun z => by
            rcases List.mem_cons.mp z with z | z
            · exact e z.symm
            · exact h z)]
  exact this ns 0
end Kv
/-! A hierarchy as an object. -/
namespace Kv
open PySem PySem.Spec PyProof.Rows L2
def flds (r q u : Addr) : List (Str × V) := putF "above" (.ref u) (putF "places" (.ref q) (putF "rows" (.ref r) []))
theorem f1 : ¬ (("rows" : Str) = "above") := by decide +kernel
theorem f2 : ¬ (("rows" : Str) = "places") := by decide +kernel
theorem f3 : ¬ (("places" : Str) = "above") := by decide +kernel
theorem flds_rows (r q u : Addr) : (flds r q u).lookup ("rows" : Str) = some (.ref r) := by
  unfold flds
  rw [lookup_putF, if_neg f1, lookup_putF, if_neg f2, lookup_putF, if_pos rfl]
theorem flds_places (r q u : Addr) : (flds r q u).lookup ("places" : Str) = some (.ref q) := by
  unfold flds
  rw [lookup_putF, if_neg f3, lookup_putF, if_pos rfl]
theorem flds_above (r q u : Addr) : (flds r q u).lookup ("above" : Str) = some (.ref u) := by
  unfold flds
  rw [lookup_putF, if_pos rfl]
theorem flds_no (r q u : Addr) {m : Str} (h1 : ¬ m = "above") (h2 : ¬ m = "places") (h3 : ¬ m = "rows") : (flds r q u).lookup m = none := by
  unfold flds
  rw [lookup_putF, if_neg h1, lookup_putF, if_neg h2, lookup_putF, if_neg h3]
  rfl
theorem two_flds (r q : Addr) : (putF "places" (V.ref q) (putF "rows" (V.ref r) [])).length < 1000 := by
  show (if ("rows" : Str) = "places" then [(("rows" : Str), V.ref q)] else (("rows" : Str), V.ref r) :: putF "places" (V.ref q) []).length < 1000
  rw [if_neg f2]
  show 2 < 1000
  decide
/-- the hierarchy of these rows stands at x -/
structure HierAt (C : Addr) (H : Hp) (x : Addr) (rows : List Row2) : Prop where
  ex : ∃ (dx r q u : Addr) (rvs : List V) (kvs : List (Key × V)), H x = some (.ins C dx (flds r q u)) ∧ H r = some (.lst rvs) ∧ RowsAre H rvs rows ∧
    H q = some (.dK (placeKV (fsts rows))) ∧ H u = some (.dK kvs) ∧ Entries H kvs (ancTab rows)
theorem HierAt.same {C : Addr} {H H' : Hp} {x : Addr} {rows : List Row2} (h : HierAt C H x rows) (s : Same H H') : HierAt C H' x rows := by
  obtain ⟨dx, r, q, u, rvs, kvs, h1, h2, h3, h4, h5, h6⟩ := h.ex
  exact ⟨dx, r, q, u, rvs, kvs, s _ _ h1, s _ _ h2, h3.same s, s _ _ h4, s _ _ h5, h6.mono fun d as e => s _ _ e⟩
theorem RowAt.wrX {H : Hp} {R : Addr} {o0 o : HO} (h : H R = some o0) (hn : ∀ xs, HO.tup xs ≠ o0) {v : V} {r : Row2} (a : RowAt H v r) : RowAt (upd H R o) v r := by
  obtain ⟨t, u, e, h1, h2⟩ := a
  exact ⟨t, u, e, by rw [upd_ne (ne_of h1 h (hn _))]; exact h1, by rw [upd_ne (ne_of h2 h (hn _))]; exact h2⟩
theorem RowsAre.wrX {H : Hp} {R : Addr} {o0 o : HO} (h : H R = some o0) (hn : ∀ xs, HO.tup xs ≠ o0) {vs : List V} {rows : List Row2} (a : RowsAre H vs rows) : RowsAre (upd H R o) vs rows :=
  Paired.mapP a fun _ _ z => z.wrX h hn
theorem RowAt.butX {H H' : Hp} {x : Addr} {o0 : HO} (h : H x = some o0) (hn : ∀ xs, HO.tup xs ≠ o0) (b : But x H H') {v : V} {r : Row2} (a : RowAt H v r) : RowAt H' v r := by
  obtain ⟨t, u, e, h1, h2⟩ := a
  exact ⟨t, u, e, b _ _ (ne_of h1 h (hn _)) h1, b _ _ (ne_of h2 h (hn _)) h2⟩
theorem Entries.wr {H : Hp} {R : Addr} {o : HO} : ∀ {kvs : List (Key × V)} {tab : Tab}, Entries H kvs tab → (∀ kv ∈ kvs, kv.2 ≠ .ref R) → Entries (upd H R o) kvs tab
  | _, _, .nil, _ => .nil
  | p :: r, _, .cons ⟨e1, d, e2, e3⟩ t, h => by
    have hd : d ≠ R := fun z => h p (List.mem_cons_self ..) (by rw [e2, z])
    exact .cons ⟨e1, d, e2, by rw [upd_ne hd]; exact e3⟩ (Entries.wr t fun kv hk => h kv (List.mem_cons_of_mem _ hk))
theorem tyL {K : PySem.W.Frag} {H : Hp} {a : Addr} {xs : List V} (h : SqL K H a xs) : TyX K H (.ref a) (.type "list") := by
  rcases h with (h | ⟨o, h⟩) | ⟨o, its, n, hk, hc, _⟩
  · exact .base (.lst h)
  · exact .base (.frz h)
  · exact .kList hk hc
theorem tyT {K : PySem.W.Frag} {H : Hp} {a : Addr} {xs : List V} (h : SqT K H a xs) : TyX K H (.ref a) (.type "tuple") := by
  rcases h with (h | ⟨o, h⟩) | ⟨o, its, n, hk, hc, _⟩
  · exact .base (.tup h)
  · exact .fTuple h
  · exact .kTuple hk hc
theorem sqL_but {K : PySem.W.Frag} {H H' : Hp} {x c : Addr} {us : List V} {C dx : Addr} {fs : List (Str × V)} (h : SqL K H c us) (hx : H x = some (.ins C dx fs)) (b : But x H H') : SqL K H' c us := by
  rcases h with (h | ⟨o, h⟩) | h
  · exact .inl (.inl (b _ _ (ne_of h hx (by intro z; cases z)) h))
  · exact .inl (.inr ⟨o, b _ _ (ne_of h hx (by intro z; cases z)) h⟩)
  · exact .inr h
theorem sqT_but {K : PySem.W.Frag} {H H' : Hp} {x c : Addr} {us : List V} {C dx : Addr} {fs : List (Str × V)} (h : SqT K H c us) (hx : H x = some (.ins C dx fs)) (b : But x H H') : SqT K H' c us := by
  rcases h with (h | ⟨o, h⟩) | h
  · exact .inl (.inl (b _ _ (ne_of h hx (by intro z; cases z)) h))
  · exact .inl (.inr ⟨o, b _ _ (ne_of h hx (by intro z; cases z)) h⟩)
  · exact .inr h
theorem sqT_same {K : PySem.W.Frag} {H H' : Hp} {c : Addr} {us : List V} (h : SqT K H c us) (s : Same H H') : SqT K H' c us := by
  rcases h with (h | ⟨o, h⟩) | h
  · exact .inl (.inl (s _ _ h))
  · exact .inl (.inr ⟨o, s _ _ h⟩)
  · exact .inr h
/-- enumerate over a tuple, as a walk -/
theorem walk_enumT {K : PySem.W.Frag} {a : Addr} {xs : List V} : Walk (Itet K a) xs.length (fun H => SqT K H a xs) (YPair (fun i => some (.int (i : Nat))) (fun i => xs[i]?)) := by
  refine ⟨fun i H hi q => ⟨xs, xs[i], q, by simp [hi]⟩, fun H q => ⟨xs, q, rfl⟩, fun i H v H2 hi q y => ?_⟩
  obtain ⟨T, x, e1, e2, e3, e4⟩ := y
  exact ⟨T, .int (i : Nat), x, e1, e2, e3, rfl, e4 xs q⟩
/-- what the walk asks of the class Hierarchy -/
structure HTxt (K : PySem.W.Frag) (mg : Str → Option Value) (C : Addr) : Prop where
  cl : Cls K C
  nR : NoAttr K C "rows"
  nP : NoAttr K C "places"
  nA : NoAttr K C "above"
  mgC : mg "Hierarchy" = some (.ref C)
  lim : ∃ mc u, ClX.CRead K C mc ∧ ClX.CVal K C mc "LIMIT" (.int 20) u
end Kv
/-! New lists do not lie where sys.modules lies. -/
namespace Kv
open PySem PySem.Spec PyProof.Rows L2
section
variable {X : Cx} {es : List Expr} {t : TA} {pos : Pos}
theorem new_low {pins : List (Addr × Obj)} {σ : L2.St} {H : Hp} {s : Shared} (low : sysModules < X.base.objs.size) (I : Inv X pins σ H s) : s.heap.objs.size ≠ sysModules := by
  have := I.ok.bsz
  have := I.sz
  intro z
  rw [z] at this
  exact absurd (Nat.lt_of_lt_of_le low (Nat.le_trans ‹X.base.objs.size ≤ _› this)) (Nat.lt_irrefl _)
/-- a list of written items, its place told apart -/
def tLstN (t : TA) : TE := fun σ H Q => t σ H fun xs H1 => xs.length ≤ sizeLine ∧ ∀ p, H1 p = none → p ≠ sysModules → Q (.ref p) (upd H1 p (.lst xs))
theorem pe_lstN (low : sysModules < X.base.objs.size) (h : PA X es t) : PE X (.List es pos) (tLstN t) := by
  constructor
  intro pins s σ H Q I hq
  refine wpAny_List_spliced (thn (h.run pos pins s σ H _ I hq) ?_)
  rintro us s1 ⟨xs, H1, I1, r, z, q⟩
  refine ⟨by rw [← r.length]; exact z, ?_⟩
  have hf : H1 s1.heap.objs.size = none := I1.hok.fresh (Nat.le_refl _)
  have ok : ObjOk X.prog X.w (upd H1 s1.heap.objs.size (.lst xs)) (s1.heap.push { cls := .type "list", data := .seq us.toArray }) s1.heap.objs.size (.lst xs) :=
    ⟨z, us, 0, r, Heap.get?_push_size _ rfl⟩
  exact ⟨.ref s1.heap.objs.size, _, I1.laid (t' := s1.toks) (fun b u e => Heap.get?_push_of_some _ e) (Nat.le_refl _) ok, rfl, q _ hf (new_low low I1)⟩
def rListN (K : PySem.W.Frag) : List V → Hp → VK → Prop := fun xs H Q => ∃ p ys, xs = [.ref p] ∧ SqL K H p ys ∧
  ∀ l, H l = none → l ≠ sysModules → Q (.ref l) (upd H l (.lst ys))
theorem call_listN (low : sysModules < X.base.objs.size) : CallR X (.type "list") (rListN X.K) := by
  intro pins s σ H xs us Q I r h
  obtain ⟨p, ys, rfl, hq, q⟩ := h
  obtain ⟨u, rfl, rx⟩ := vals1 r
  cases rx
  obtain ⟨its, rv, pl, hz⟩ := I.list hq
  have hlen := rv.length
  obtain ⟨o, ho, hc, n, hd⟩ := pl.isList
  refine call_list_seq p (.inl rfl) ho hc hd ?_ (by simp only [List.size_toArray]; omega)
  intro h2 c2 kp e
  have ok : ObjOk X.prog X.w (upd H s.heap.objs.size (.lst ys)) h2 s.heap.objs.size (.lst ys) := ⟨hz, its, c2, rv, e⟩
  exact ⟨.ref s.heap.objs.size, _, I.laid (t' := s.toks) kp (Nat.le_refl _) ok, rfl, q _ (I.hok.fresh (Nat.le_refl _)) (new_low low I)⟩
end
/-- a value that can be shown, dicts and lists in it -/
def GoodN (n m : Nat) (K : PySem.W.Frag) (H : Hp) (v : V) : Prop := ∃ d : PyData, Sh K false H v d ∧ Fit n m d
theorem GoodN.same {n m : Nat} {K : PySem.W.Frag} {H H' : Hp} {v : V} (g : GoodN n m K H v) (s : Same H H') : GoodN n m K H' v := by
  obtain ⟨d, h, r⟩ := g
  exact ⟨d, h.same s, r⟩
mutual
/-- the value v is the datum d, all in the heap; its lists lie where ok tells -/
inductive ShO (ok : Addr → Prop) (H : Hp) : V → PyData → Prop
  | non : ShO ok H .non .none
  | bl (b : Bool) : ShO ok H (.bl b) (.bool b)
  | int (i : Int) : ShO ok H (.int i) (.int i)
  | str (x : Str) : ShO ok H (.str x) (.str x)
  | lst {a : Addr} {xs : List V} {ds : List PyData} : H a = some (.lst xs) → ok a → ShOs ok H xs ds → ShO ok H (.ref a) (.list ds)
  | tup {a : Addr} {xs : List V} {ds : List PyData} : H a = some (.tup xs) → ShOs ok H xs ds → ShO ok H (.ref a) (.tuple ds)
  | dict {a : Addr} {kvs : List (Key × V)} {ks vs : List PyData} : H a = some (.dK kvs) → ShOs ok H (kvs.map fun p => kV p.1) ks →
      ShOs ok H (kvs.map fun p => p.2) vs → ShO ok H (.ref a) (.dict (ks.zip vs))
inductive ShOs (ok : Addr → Prop) (H : Hp) : List V → List PyData → Prop
  | nil : ShOs ok H [] []
  | cons {v : V} {vs : List V} {d : PyData} {ds : List PyData} : ShO ok H v d → ShOs ok H vs ds → ShOs ok H (v :: vs) (d :: ds)
end
mutual
theorem ShO.keep {ok : Addr → Prop} {H H' : Hp} (kL : ∀ a xs, ok a → H a = some (.lst xs) → H' a = some (.lst xs)) (kT : ∀ a xs, H a = some (.tup xs) → H' a = some (.tup xs))
    (kD : ∀ a xs, H a = some (.dK xs) → H' a = some (.dK xs)) : ∀ {v : V} {d : PyData}, ShO ok H v d → ShO ok H' v d
  | _, _, .non => .non
  | _, _, .bl b => .bl b
  | _, _, .int i => .int i
  | _, _, .str x => .str x
  | _, _, .lst h1 h2 h3 => .lst (kL _ _ h2 h1) h2 (ShOs.keep kL kT kD h3)
  | _, _, .tup h1 h3 => .tup (kT _ _ h1) (ShOs.keep kL kT kD h3)
  | _, _, .dict h1 h2 h3 => .dict (kD _ _ h1) (ShOs.keep kL kT kD h2) (ShOs.keep kL kT kD h3)
theorem ShOs.keep {ok : Addr → Prop} {H H' : Hp} (kL : ∀ a xs, ok a → H a = some (.lst xs) → H' a = some (.lst xs)) (kT : ∀ a xs, H a = some (.tup xs) → H' a = some (.tup xs))
    (kD : ∀ a xs, H a = some (.dK xs) → H' a = some (.dK xs)) : ∀ {vs : List V} {ds : List PyData}, ShOs ok H vs ds → ShOs ok H' vs ds
  | _, _, .nil => .nil
  | _, _, .cons h1 h2 => .cons (ShO.keep kL kT kD h1) (ShOs.keep kL kT kD h2)
end
theorem ShO.same {ok : Addr → Prop} {H H' : Hp} (s : Same H H') {v : V} {d : PyData} (h : ShO ok H v d) : ShO ok H' v d :=
  h.keep (fun _ _ _ e => s _ _ e) (fun _ _ e => s _ _ e) (fun _ _ e => s _ _ e)
theorem ShO.but {ok : Addr → Prop} {H H' : Hp} {p : Addr} {zs : List V} (hok : ∀ a, ok a → a ≠ p) (hp : H p = some (.lst zs)) (b : But p H H') {v : V} {d : PyData} (h : ShO ok H v d) : ShO ok H' v d :=
  h.keep (fun _ _ o e => b _ _ (hok _ o) e) (fun _ _ e => b _ _ (ne_of e hp (by intro z; cases z)) e) (fun _ _ e => b _ _ (ne_of e hp (by intro z; cases z)) e)
theorem ShOs.same {ok : Addr → Prop} {H H' : Hp} (s : Same H H') {v : List V} {d : List PyData} (h : ShOs ok H v d) : ShOs ok H' v d :=
  h.keep (fun _ _ _ e => s _ _ e) (fun _ _ e => s _ _ e) (fun _ _ e => s _ _ e)
theorem ShOs.but {ok : Addr → Prop} {H H' : Hp} {p : Addr} {zs : List V} (hok : ∀ a, ok a → a ≠ p) (hp : H p = some (.lst zs)) (b : But p H H') {v : List V} {d : List PyData} (h : ShOs ok H v d) : ShOs ok H' v d :=
  h.keep (fun _ _ o e => b _ _ (hok _ o) e) (fun _ _ e => b _ _ (ne_of e hp (by intro z; cases z)) e) (fun _ _ e => b _ _ (ne_of e hp (by intro z; cases z)) e)
theorem ShOs.snoc {ok : Addr → Prop} {H : Hp} : ∀ {vs : List V} {ds : List PyData} {v : V} {d : PyData}, ShOs ok H vs ds → ShO ok H v d → ShOs ok H (vs ++ [v]) (ds ++ [d])
  | _, _, _, _, .nil, h => .cons h .nil
  | _, _, _, _, .cons a b, h => .cons a (ShOs.snoc b h)
theorem ShOs.length {ok : Addr → Prop} {H : Hp} : ∀ {vs : List V} {ds : List PyData}, ShOs ok H vs ds → vs.length = ds.length
  | _, _, .nil => rfl
  | _, _, .cons _ t => by rw [List.length_cons, List.length_cons, t.length]
mutual
theorem ShO.sh {K : PySem.W.Frag} {ok : Addr → Prop} {H : Hp} (hok : ∀ a, ok a → a ≠ sysModules) : ∀ {v : V} {d : PyData}, ShO ok H v d → Sh K false H v d
  | _, _, .non => .non
  | _, _, .bl b => .bl b
  | _, _, .int i => .int i
  | _, _, .str x => .str x
  | _, _, .lst h1 h2 h3 => .lst (.inl (.inl h1)) (fun _ => hok _ h2) (ShOs.sh hok h3)
  | _, _, .tup h1 h3 => .tup (.inl (.inl h1)) (ShOs.sh hok h3)
  | _, _, .dict h1 h2 h3 => .dict rfl h1 (ShOs.sh hok h2) (ShOs.sh hok h3)
theorem ShOs.sh {K : PySem.W.Frag} {ok : Addr → Prop} {H : Hp} (hok : ∀ a, ok a → a ≠ sysModules) : ∀ {vs : List V} {ds : List PyData}, ShOs ok H vs ds → ShAll K false H vs ds
  | _, _, .nil => .nil
  | _, _, .cons h1 h2 => .cons (ShO.sh hok h1) (ShOs.sh hok h2)
end
/-- a hierarchy stays while a pot is drawn from -/
theorem HierAt.but {C : Addr} {H H' : Hp} {p x : Addr} {rows : List Row2} (hp : PotAt H p) (b : But p H H') (h : HierAt C H x rows) : HierAt C H' x rows := by
  obtain ⟨dx, r, q, u, rvs, kvs, h1, h2, h3, h4, h5, h6⟩ := h.ex
  obtain ⟨r0, g0, ep, _⟩ := id hp
  have nr : r ≠ p := by
    intro z
    rw [z, ep] at h2
    cases Option.some.inj h2
    cases h3 with
    | cons a _ =>
      obtain ⟨_, _, e, _⟩ := a
      cases e
  exact ⟨dx, r, q, u, rvs, kvs, b _ _ (ne_of h1 ep (by intro z; cases z)) h1, b _ _ nr h2, h3.but hp b, b _ _ (ne_of h4 ep (by intro z; cases z)) h4,
    b _ _ (ne_of h5 ep (by intro z; cases z)) h5, h6.mono fun d as e => b _ _ (ne_of e ep (by intro z; cases z)) e⟩
/-- where the lists of a drawn value lie -/
def Apart (p : Addr) : Addr → Prop := fun a => a ≠ p ∧ a ≠ sysModules
/-- a drawn value -/
def Drawn (n m : Nat) (p : Addr) (H : Hp) (v : V) : Prop := ∃ d : PyData, ShO (Apart p) H v d ∧ Fit n m d
theorem Drawn.same {n m : Nat} {p : Addr} {H H' : Hp} {v : V} (g : Drawn n m p H v) (s : Same H H') : Drawn n m p H' v := by
  obtain ⟨d, h, r⟩ := g
  exact ⟨d, h.same s, r⟩
theorem Drawn.but {n m : Nat} {p : Addr} {H H' : Hp} {v : V} (hp : PotAt H p) (b : But p H H') (g : Drawn n m p H v) : Drawn n m p H' v := by
  obtain ⟨d, h, r⟩ := g
  obtain ⟨r1, g1, e, _⟩ := hp
  exact ⟨d, h.but (fun _ z => z.1) e b, r⟩
theorem Drawn.mono {n m n' m' : Nat} {p : Addr} {H : Hp} {v : V} (g : Drawn n m p H v) (a : n ≤ n') (b : m ≤ m') : Drawn n' m' p H v := by
  obtain ⟨d, h, r⟩ := g
  exact ⟨d, h, r.mono a b⟩
theorem Drawn.good {n m : Nat} {K : PySem.W.Frag} {p : Addr} {H : Hp} {v : V} (g : Drawn n m p H v) : GoodN n m K H v := by
  obtain ⟨d, h, r⟩ := g
  exact ⟨d, h.sh (fun _ z => z.2), r⟩
theorem Drawn.non {n m : Nat} {p : Addr} {H : Hp} : Drawn n m p H .non := ⟨_, .non, fit_non.mono (Nat.zero_le _) (Nat.zero_le _)⟩
theorem Drawn.bl {n m : Nat} {p : Addr} {H : Hp} {b : Bool} : Drawn n m p H (.bl b) := ⟨_, .bl b, fit_bl.mono (Nat.zero_le _) (Nat.zero_le _)⟩
theorem Drawn.int {n m : Nat} {p : Addr} {H : Hp} {i : Int} (h : i.natAbs ≤ 10 ^ 60) (hn : 200 ≤ n := by decide) : Drawn n m p H (.int i) := ⟨_, .int i, (fit_int h).mono hn (Nat.zero_le _)⟩
theorem Drawn.str {n m k : Nat} {p : Addr} {H : Hp} {x : Str} (h : Sm k x) (hn : k ≤ n := by decide) : Drawn n m p H (.str x) := ⟨_, .str x, h.fit.mono hn (Nat.zero_le _)⟩
end Kv
/-! C.m(e, ..), m a plain def of the class C: the def itself is called. -/
namespace Kv
open PySem PySem.Spec PyProof.Rows L2
def tCF (C : Addr) (sp : Sp) (dvs : List V) (E : XK) (ta : TE) (t : TA) : TE := fun σ H Q => ta σ H fun x H1 => x = .ref C ∧ tCall sp dvs E t σ H1 Q
section
variable {X : Cx} {CX : CXT} {k : Nat} {f C : Addr} {fd : FuncData} {ps : List Str} {sp : Sp} {dvs : List V} {ds : List Value} {E : XK} {m : Str} {apos pos : Pos} {o e : Expr} {es : List Expr} {ta : TE} {t : TA} {mc : Value}
theorem pe_clsFn {pl : Sem Bool} (he : PE X o ta) (r : ClX.CRead X.K C mc) (c : PySem.W.findCls X.K (.ref C) mc m = some (.val (.ref f))) (hk : PySem.W.keepIn X.K (.ref f) = true)
    (F : FnOk X.prog X.w X.K X.mg X.base CX k f fd ps sp) (hr : Room k X.A) (hb : Binds X.K fd ps ds) (hd : Vals dvs ds) (hx : Passes CX X E) (ha : PA X (e :: es) t)
    (hst : starEach (e :: es) X.env = (false, eval e X.env) :: starEach es X.env := by rfl) (hpl : (backTo pos (starEach es X.env)).any (·.1) = false := by rfl)
    (ht : eval (.Call (.Attribute o m apos) (e :: es) [] pos) X.env = (do
      let ov ← eval o X.env
      standAt apos.atName
      let (g, first) ← holding [ov] (getMethod ov m pl)
      callWith pos g first (backTo pos (starEach (e :: es) X.env)) (backToKw pos (keywordEach [] X.env))) := by rfl) :
    PE X (.Call (.Attribute o m apos) (e :: es) [] pos) (tCF C sp dvs E ta t) := by
  constructor
  intro pins s σ H Q I h
  refine PySem.W.methodCall_KW (pl := pl) (thn (he.run pins s σ H _ I h) fun u s1 ⟨x, H1, I1, rx, ex, q⟩ => ?_) ht
  subst ex
  obtain rfl : u = Value.ref C := rx
  refine PySem.W.method_cls I1.kIn r.ga (PySem.W.cls_value I1.kIn r.rd c rfl ?_)
  exact PySem.W.callWith_K (h₀ := X.base) I1.ok.mod.kin hk (thn (ha.run pos pins _ σ H1 _ (I1.tok _) q) fun us s2 ⟨vs, H2, I2, rv, q2⟩ => ⟨I2.kIn, run_fn F hr hb hd hx I2 rv q2⟩) hst hpl
end
end Kv
/-! A datum of any kind against a text; a tuple of such against a tuple of texts. -/
namespace Kv
open PySem PySem.Spec PyProof.Rows L2
section
open PySem.SeqAt PySem.MeetsSeq AutoSeq1
theorem dict_eq_declines_str (l : Addr) (es : Array DictEntry) (ep : Nat) (dd : Option Addr) (sl : Array (Option Value)) (b : Str) (u : Tok) :
    Meets (Builtin.«dict.__eq__» ⟨[.ref l, .str b u], []⟩) (fun _ R s => s.heap.get? l = some { cls := .type "dict", dict := dd, data := .dict es ep, slots := sl } ∧ R (.ok (.ret .notImplemented)) s) :=
  .of_wp fun prog w A R s h => by obtain ⟨hp, g, d, tk, os⟩ := s; obtain ⟨hl, h⟩ := h; have f1 := F.sub_str_dict; wp_walk using wpAny_loadPart' hl; exact ⟨_, rfl, h⟩
theorem str_eq_declines_dict (b : Str) (u : Tok) (l : Addr) (es : Array DictEntry) (ep : Nat) (dd : Option Addr) (sl : Array (Option Value)) :
    Meets (Builtin.«str.__eq__» ⟨[.str b u, .ref l], []⟩) (fun _ R s => s.heap.get? l = some { cls := .type "dict", dict := dd, data := .dict es ep, slots := sl } ∧ R (.ok (.ret .notImplemented)) s) :=
  .of_wp fun prog w A R s h => by obtain ⟨hp, g, d, tk, os⟩ := s; obtain ⟨hl, h⟩ := h; wp_walk using wpAny_loadPart' hl, wpAny_load hl; exact ⟨_, rfl, h⟩
variable {A : Around} {s : Shared}
theorem rc_dict_str {l : Addr} {o : Obj} {es : Array DictEntry} {ep : Nat} (b : Str) (u : Tok) (ho : s.heap.get? l = some o) (hc : o.cls = .type "dict") (hd : o.data = .dict es ep)
    (hu : A.units < cLine) : RcAt A s (.ref l) (.str b u) false := fun prog w E Q h => by
  obtain ⟨cls, dd, data, sl⟩ := o
  simp only at hc hd
  subst hc hd
  exact rc_eq_decline_or (k := false) ⟨_, ho, rfl⟩ (typeIs_str s b u) (by decide) F.sub_str_dict F.slot_dict_eq F.slot_str_eq_refl
    (fun _ hq => call_meets F.slot_dict_eq ⟨_, ho, rfl⟩ F.entry_dict_eq (F.args_dict_eq_2 _ _) (dict_eq_declines_str l es ep dd sl b u) ⟨ho, hq⟩)
    (fun _ hq => call_meets F.slot_str_eq_refl (typeIs_str s b u) F.entry_str_eq (F.args_str_eq_2 _ _) (str_eq_declines_dict b u l es ep dd sl) ⟨ho, hq⟩)
    (fun _ hq => wpAny_of_eq (rfl : isSame (.ref l) (.str b u) = pure false) hq) (.inr hu) h
theorem eqAt_dict_str {l : Addr} {o : Obj} {es : Array DictEntry} {ep : Nat} (b : Str) (u : Tok) (ho : s.heap.get? l = some o) (hc : o.cls = .type "dict") (hd : o.data = .dict es ep)
    (hu : A.units < cLine) : EqAt A s (.ref l) (.str b u) false := fun prog w E Q h => by
  unfold eqBool
  refine wpAny_holding ?_
  refine wpAny_ite_split (fun hab => absurd (eq_of_beq hab) nofun) (fun _ => ?_)
  exact wpAny_bind (rc_dict_str b u ho hc hd hu prog w E _ (wpAny_truthy_bool h))
def strEq : PyData → Str → Bool
  | .str x, z => x == z
  | _, _ => false
theorem rc_any_str {v : Value} {d : PyData} {as : List Addr} (z : Str) (u : Tok) (r : Reads s.heap v d as) (hu : A.units < cLine) : RcAt A s v (.str z u) (strEq d z) := by
  cases r with
  | none => exact RcAt.none_str z u
  | bool y => exact RcAt.bool_str y z u
  | int y t => exact RcAt.int_str y t z u
  | str y t => exact RcAt.str_str y t z u
  | list k1 k2 k3 k4 => exact RcAt.list_str z u ⟨_, k1, k2, _, k3⟩ hu
  | tuple k1 k2 k3 k4 => exact RcAt.tuple_str z u ⟨_, k1, k2, _, k3⟩ hu
  | dict k1 k2 k3 k4 k5 => exact rc_dict_str z u k1 k2 k3 hu
theorem eqAt_any_str {v : Value} {d : PyData} {as : List Addr} (z : Str) (u : Tok) (r : Reads s.heap v d as) (hu : A.units < cLine) : EqAt A s v (.str z u) (strEq d z) := by
  cases r with
  | none => exact EqAt.none_str z u
  | bool y => exact EqAt.bool_str y z u
  | int y t => exact EqAt.int_str y t z u
  | str y t => exact EqAt.str_str y t z u
  | list k1 k2 k3 k4 => exact EqAt.list_str z u ⟨_, k1, k2, _, k3⟩ hu
  | tuple k1 k2 k3 k4 => exact EqAt.tuple_str z u ⟨_, k1, k2, _, k3⟩ hu
  | dict k1 k2 k3 k4 k5 => exact eqAt_dict_str z u k1 k2 k3 hu
/-- a tuple of data is that tuple of texts -/
def tupEq : List PyData → List Str → Bool
  | [], [] => true
  | d :: ds, z :: zs => strEq d z && tupEq ds zs
  | _, _ => false
abbrev pairS (ds : List PyData) (zs : List Str) (j : Nat) : Bool := strEq (ds.getD j .none) (zs.getD j "")
theorem tupEq_eq : ∀ (ds : List PyData) (zs : List Str), ((List.range (min ds.length zs.length)).all (pairS ds zs) && ds.length == zs.length) = tupEq ds zs
  | [], [] => rfl
  | [], _ :: _ => by simp [tupEq]
  | _ :: _, [] => by simp [tupEq]
  | x :: xs, y :: ys => by
    have ih := tupEq_eq xs ys
    have e1 : min (x :: xs).length (y :: ys).length = min xs.length ys.length + 1 := by simp only [List.length_cons]; omega
    have e2 : ((x :: xs).length == (y :: ys).length) = (xs.length == ys.length) := by simp
    have e3 : (List.range (min xs.length ys.length + 1)).all (pairS (x :: xs) (y :: ys)) = (strEq x y && (List.range (min xs.length ys.length)).all (pairS xs ys)) := by
      rw [List.range_succ_eq_map, List.all_cons, List.all_map]
      first | rfl | simp [pairS, Function.comp_def]
    rw [e1, e2, e3, tupEq, ← ih, Bool.and_assoc]
theorem readsAll_get {h : Heap} : ∀ {ds : List PyData} {vs : List Value} {as : List Addr} {j : Nat} {v : Value}, ReadsAll h vs ds as → vs[j]? = some v → ∃ bs, Reads h v (ds.getD j .none) bs
  | _, _, _, _, _, .nil, e => by simp at e
  | _, _, _, 0, v, .cons r _, e => by
    simp at e
    subst e
    exact ⟨_, r⟩
  | _, _, _, j + 1, v, .cons _ r, e => by
    obtain ⟨bs, q⟩ := readsAll_get (j := j) r (by simpa using e)
    exact ⟨bs, by simpa using q⟩
theorem vals_strs_get : ∀ {zs : List Str} {us : List Value} {j : Nat} {u : Value}, Vals (zs.map V.str) us → us[j]? = some u → ∃ t, u = .str (zs.getD j "") t
  | [], _, _, _, r, e => by
    cases r
    simp at e
  | z :: zs, _, 0, u, .cons r _, e => by
    simp at e
    subst e
    obtain ⟨t, rfl⟩ := r
    exact ⟨t, rfl⟩
  | z :: zs, _, j + 1, u, .cons _ r, e => by
    obtain ⟨t, q⟩ := vals_strs_get (zs := zs) (j := j) r (by simpa using e)
    exact ⟨t, by simpa using q⟩
end
section
variable {X : Cx}
def rEqTx (K : PySem.W.Frag) : R2 := fun x y H Q => ∃ nd d z, Sh K nd H x d ∧ y = .str z ∧ Q (.bl (strEq d z)) H
theorem op_eqTx (hu : X.A.units < cLine) : OpR X (compareOp .Eq) (rEqTx X.K) := by
  intro pins s σ H x y v u Q I rx ry h
  obtain ⟨nd, d, z, sh, rfl, q⟩ := h
  obtain ⟨t, rfl⟩ := ry
  obtain ⟨as, rd, _⟩ := sh.reads I rx
  exact rc_any_str z t rd hu _ _ _ _ ⟨.bl _, H, I, rfl, q⟩
def rEqTT (K : PySem.W.Frag) : R2 := fun x y H Q => ∃ (nd : Bool) (a b : Addr) (xs : List V) (ds : List PyData) (zs : List Str), x = .ref a ∧ SqT K H a xs ∧ ShAll K nd H xs ds ∧ y = .ref b ∧ SqT K H b (zs.map V.str) ∧ Q (.bl (tupEq ds zs)) H
theorem op_eqTT (hu : X.A.units + 1 < cLine) : OpR X (compareOp .Eq) (rEqTT X.K) := by
  intro pins s σ H x y v u Q I rx ry h
  obtain ⟨nd, a, b, xs, ds, zs, rfl, ha, hs, rfl, hb, q⟩ := h
  cases rx
  cases ry
  obtain ⟨its, rv, tx, _⟩ := I.tuple ha
  obtain ⟨jts, rw2, ty, _⟩ := I.tuple hb
  obtain ⟨as, rd, _⟩ := hs.reads I rv
  have n1 : its.toArray.size = ds.length := by
    rw [List.size_toArray, ← rv.length, hs.length]
  have n2 : jts.toArray.size = zs.length := by
    rw [List.size_toArray, ← rw2.length, List.length_map]
  refine SeqAt.RcAt.tuples (e := pairS ds zs) tx ty (by omega) (fun j h1 h2 => ?_) _ _ _ _ ⟨.bl (tupEq ds zs), H, I, ?_, q⟩
  · have g1 : its[j]? = some its.toArray[j] := by
      simp
    have g2 : jts[j]? = some jts.toArray[j] := by
      simp
    obtain ⟨bs, r1⟩ := readsAll_get rd g1
    obtain ⟨t, e⟩ := vals_strs_get rw2 g2
    rw [e]
    exact eqAt_any_str _ _ r1 (show X.A.units + 1 < cLine from hu)
  · rw [n1, n2, tupEq_eq]
    rfl
end
end Kv
/-! C(e, ..) that may raise, in a try; isinstance of a caught exception that has fields. -/
namespace Kv
open PySem PySem.Spec PyProof.Rows L2
section
variable {X : Cx} {CX : CXT} {k : Nat} {f C : Addr} {fd : FuncData} {ps : List Str} {sp : Sp} {dvs : List V} {ds : List Value} {E : L2.St → XK} {x : Str} {p pos : Pos} {e : Expr} {es : List Expr} {t : TA}
def tMakeS (C : Addr) (sp : Sp) (dvs : List V) (E : L2.St → XK) (t : TA) : TE := fun σ H Q => t σ H fun vs H1 => ∀ x dx, H1 x = none → H1 dx = none → dx ≠ x →
  sp (.ref x :: (vs ++ dvs)) (upd (upd H1 dx (.own x)) x (.ins C dx [])) (fun v H2 => v = .non ∧ Q (.ref x) H2) (E σ)
theorem run_makeS {pins : List (Addr × Obj)} {σ : L2.St} {H : Hp} {s : Shared} {Q : VK} {us : List Value} {vs : List V} (M : Mk X.K C f) (F : FnOk X.prog X.w X.K X.mg X.base CX k f fd ps sp) (hr : Room (k + 1) X.A) (hb : Binds X.K fd ps ds) (hd : Vals dvs ds)
    (hx : PassesAt CX X σ (E σ)) (I : Inv X pins σ H s) (r : Vals vs us)
    (h : ∀ x dx, H x = none → H dx = none → dx ≠ x → sp (.ref x :: (vs ++ dvs)) (upd (upd H dx (.own x)) x (.ins C dx [])) (fun v H2 => v = .non ∧ Q (.ref x) H2) (E σ)) :
    wpAny (model X.prog X.w) X.A (call (.ref C) us) (EP X pins σ Q) X.xe s := by
  have hq := h (s.heap.objs.size + 1) s.heap.objs.size (I.hok.fresh (Nat.le_succ _)) (I.hok.fresh (Nat.le_refl _)) (Nat.ne_of_lt (Nat.lt_succ_self _))
  have I2 := Inv.made (C := C) I
  have r2 : Vals (V.ref (s.heap.objs.size + 1) :: (vs ++ dvs)) (Value.ref (s.heap.objs.size + 1) :: (us ++ ds)) := .cons rfl (r.append hd)
  have hl : (Value.ref (s.heap.objs.size + 1) :: us ++ ds).length = ps.length := by
    have e := r2.length
    rw [F.len _ _ _ _ hq] at e
    exact e.symm
  refine wpAny_call (make_map (f := f) I.kIn M.makes M.init (beq_iff_eq.mp M.fn) (codeAny_mono (F.run _ X.stack _ _ ⟨Value.ref (s.heap.objs.size + 1) :: us, []⟩ (Value.ref (s.heap.objs.size + 1) :: (us ++ ds)) _ _ (E σ) (hr.make C us [])
    (I2.env0.make C us []) (hb _ (Value.ref (s.heap.objs.size + 1) :: us) I2.kIn hl) r2 hq) fun r s2 hq2 => ?_))
  cases r with
  | error e => exact hx pins _ _ e s2 I2 hq2
  | ok fl =>
    cases fl with
    | ret u =>
      obtain ⟨v, H3, I3, rv, ev, q3⟩ := I2.after hq2
      subst ev
      exact ⟨rv, ⟨V.ref (s.heap.objs.size + 1), H3, I3, rfl, q3⟩⟩
    | next => exact False.elim hq2
    | brk => exact False.elim hq2
    | cont => exact False.elim hq2
theorem pe_makeS (M : Mk X.K C f) (F : FnOk X.prog X.w X.K X.mg X.base CX k f fd ps sp) (hr : Room (k + 1) X.A) (hg : Gl X x) (hm : X.mg x = some (.ref C)) (hb : Binds X.K fd ps ds) (hd : Vals dvs ds) (hx : ∀ σ, PassesAt CX X σ (E σ))
    (ha : PA X (e :: es) t) (hdb : (x == ("__debug__" : Str)) = false := by decide) (he : starEach (e :: es) X.env = (false, eval e X.env) :: starEach es X.env := by rfl) (hpl : (backTo pos (starEach es X.env)).any (·.1) = false := by rfl) :
    PE X (.Call (.Name x p) (e :: es) [] pos) (tMakeS C sp dvs E t) := by
  constructor
  intro pins s σ H Q I h
  refine wpAny_Call_Name_kw (ld_glob I hg hm ?_ hdb)
  refine PySem.W.callWith_K (h₀ := X.base) I.ok.mod.kin M.kp (thn (ha.run pos pins s σ H _ I h) fun us s1 ⟨vs, H1, I1, r, q⟩ => ⟨I1.kIn, ?_⟩) he hpl
  exact run_makeS M F hr hb hd (hx σ) I1 r q
end
/-! isinstance of a caught exception with its dict -/
section
variable {X : Cx} {a D : Addr} {oe : Obj} {pn : List (Addr × Obj)} {cls : Value} {d : Option Addr}
theorem exc_kit {pins : List (Addr × Obj)} {σ : L2.St} {H : Hp} {s : Shared} {dd : Addr} {fs : List (Str × V)} (hz : Zc (.ref D) (some dd) oe) (hf : ∃ vs, oe.data = .fields vs) (I : Inv (X.suite a ((a, oe) :: pn)) pins σ H s) (hd : H dd = some (.xd fs)) :
    ∃ od, PySem.W.InstAt s.heap a oe D (some od) := by
  obtain ⟨hget, _⟩ := I.pin (a, oe) (List.mem_append.mpr (.inl List.mem_cons_self))
  obtain ⟨vs, hv⟩ := hf
  have hx : ObjOk X.prog X.w H s.heap dd (.xd fs) := I.hok dd _ hd
  obtain ⟨mA, hns, hr⟩ := hx
  obtain ⟨od, ho, hl⟩ := lookIn_ns hns
  exact ⟨od, hget, hz.1, by unfold PySem.W.notCls; rw [hv] <;> rfl, by rw [hz.2]; exact ho⟩
def rIsED (K : PySem.W.Frag) (cls : Value) (d : Option Addr) (D a : Addr) : List V → Hp → VK → Prop := fun xs H Q => ∃ (c : V) (cv : Value) (b : Bool) (dd : Addr) (fs : List (Str × V)), xs = [.ref a, c] ∧ cls = .ref D ∧ d = some dd ∧ H dd = some (.xd fs) ∧
  (∀ u, RelV c u → u = cv) ∧ PySem.W.kitOne K (.ref D) cv = some b ∧ Q (.bl b) H
theorem call_isED (C : ExcC X.K D) (hz : Zc cls d oe) (hf : ∃ vs, oe.data = .fields vs) : CallR (X.suite a ((a, oe) :: pn)) (.builtin "isinstance") (rIsED X.K cls d D a) := by
  intro pins s σ H xs us Q I r h
  obtain ⟨c, cv, b, dd, fs, rfl, rfl, rfl, hdd, hcv, e, q⟩ := h
  obtain ⟨u1, u2, rfl, r1, r2⟩ := vals2 r
  cases r1
  have ec := hcv _ r2
  subst ec
  obtain ⟨od, J⟩ := exc_kit hz hf I hdd
  obtain ⟨cd, hc, _⟩ := PySem.W.any_some C.hd
  exact PySem.W.kia_one (PySem.W.kitx_exc (by rw [hc]; rfl) C.hg C.hk C.hs C.ha C.hn C.ht C.hm) I.kIn J e (fun z => nomatch z) fun tk => ⟨.bl b, H, I.tok tk, rfl, q⟩
def rIsEDT (K : PySem.W.Frag) (cls : Value) (d : Option Addr) (D a : Addr) : List V → Hp → VK → Prop := fun xs H Q => ∃ (tp : Addr) (cs : List V) (us : List Value) (b : Bool) (dd : Addr) (fs : List (Str × V)), xs = [.ref a, .ref tp] ∧ cls = .ref D ∧ d = some dd ∧ H dd = some (.xd fs) ∧
  H tp = some (.tup cs) ∧ Paired (fun c u => ∀ z, RelV c z → z = u) cs us ∧ PySem.W.kitAny K (.ref D) us = some b ∧ Q (.bl b) H
theorem paired_eq : ∀ {cs : List V} {us its : List Value}, Paired (fun c u => ∀ z, RelV c z → z = u) cs us → Vals cs its → its = us
  | _, _, _, .nil, .nil => rfl
  | _, _, _, .cons a b, .cons r s => by rw [a _ r, paired_eq b s]
theorem call_isEDT (C : ExcC X.K D) (hz : Zc cls d oe) (hf : ∃ vs, oe.data = .fields vs) : CallR (X.suite a ((a, oe) :: pn)) (.builtin "isinstance") (rIsEDT X.K cls d D a) := by
  intro pins s σ H xs us Q I r h
  obtain ⟨tp, cs, ws, b, dd, fs, rfl, rfl, rfl, hdd, hT, k, e, q⟩ := h
  obtain ⟨u1, u2, rfl, r1, r2⟩ := vals2 r
  cases r1
  cases (show u2 = Value.ref tp from r2)
  obtain ⟨od, J⟩ := exc_kit hz hf I hdd
  obtain ⟨cd, hc, _⟩ := PySem.W.any_some C.hd
  obtain ⟨_, its, rv, o, h1, h2, n, h3⟩ := (show ObjOk X.prog X.w H s.heap tp (.tup cs) from I.hok tp _ hT)
  have e3 := paired_eq k rv
  subst e3
  obtain ⟨oc, oD, dt, sl⟩ := o
  simp only at h2 h3
  subst h2 h3
  exact PySem.W.kia_tup (PySem.W.kitx_exc (by rw [hc]; rfl) C.hg C.hk C.hs C.ha C.hn C.ht C.hm) I.kIn J h1 e (fun z => nomatch z) fun tk => ⟨.bl b, H, I.tok tk, rfl, q⟩
end
end Kv
/-! What isinstance says of data; data that fit, part by part. -/
namespace Lw
open PySem PySem.Spec PyProof.Rows L2 Kv
def wordD : PyData → Bool
  | .str x => nameV (.str x)
  | _ => false
/-! what isinstance says -/
def tyD : PyData → String
  | .none => "NoneType"
  | .bool _ => "bool"
  | .int _ => "int"
  | .str _ => "str"
  | .list _ => "list"
  | .tuple _ => "tuple"
  | .dict _ => "dict"
theorem _root_.Kv.Sh.tyIs {K : PySem.W.Frag} {nd : Bool} {H : Hp} {v : V} {d : PyData} (h : Sh K nd H v d) : TyX K H v (.type (tyD d)) := by
  cases h with
  | non => exact .base .non
  | bl b => exact .base (.bl b)
  | int i => exact .base (.int i)
  | str x => exact .base (.str x)
  | lst h1 _ _ => exact tyL h1
  | tup h1 _ => exact tyT h1
  | dict _ h1 _ _ => exact .base (.dK h1)
def isTup : PyData → Bool
  | .tuple _ => true
  | _ => false
def isStr : PyData → Bool
  | .str _ => true
  | _ => false
def isInt : PyData → Bool
  | .int _ => true
  | .bool _ => true
  | _ => false
def isBool : PyData → Bool
  | .bool _ => true
  | _ => false
theorem kit_tup : ∀ d : PyData, kitB (tyD d) "tuple" = some (isTup d)
  | .none => (by decide +kernel : kitB "NoneType" "tuple" = some false)
  | .bool _ => (by decide +kernel : kitB "bool" "tuple" = some false)
  | .int _ => (by decide +kernel : kitB "int" "tuple" = some false)
  | .str _ => (by decide +kernel : kitB "str" "tuple" = some false)
  | .list _ => (by decide +kernel : kitB "list" "tuple" = some false)
  | .tuple _ => (by decide +kernel : kitB "tuple" "tuple" = some true)
  | .dict _ => (by decide +kernel : kitB "dict" "tuple" = some false)
theorem kit_str : ∀ d : PyData, kitB (tyD d) "str" = some (isStr d)
  | .none => (by decide +kernel : kitB "NoneType" "str" = some false)
  | .bool _ => (by decide +kernel : kitB "bool" "str" = some false)
  | .int _ => (by decide +kernel : kitB "int" "str" = some false)
  | .str _ => (by decide +kernel : kitB "str" "str" = some true)
  | .list _ => (by decide +kernel : kitB "list" "str" = some false)
  | .tuple _ => (by decide +kernel : kitB "tuple" "str" = some false)
  | .dict _ => (by decide +kernel : kitB "dict" "str" = some false)
theorem kit_int : ∀ d : PyData, kitB (tyD d) "int" = some (isInt d)
  | .none => (by decide +kernel : kitB "NoneType" "int" = some false)
  | .bool _ => (by decide +kernel : kitB "bool" "int" = some true)
  | .int _ => (by decide +kernel : kitB "int" "int" = some true)
  | .str _ => (by decide +kernel : kitB "str" "int" = some false)
  | .list _ => (by decide +kernel : kitB "list" "int" = some false)
  | .tuple _ => (by decide +kernel : kitB "tuple" "int" = some false)
  | .dict _ => (by decide +kernel : kitB "dict" "int" = some false)
theorem kit_bool : ∀ d : PyData, kitB (tyD d) "bool" = some (isBool d)
  | .none => (by decide +kernel : kitB "NoneType" "bool" = some false)
  | .bool _ => (by decide +kernel : kitB "bool" "bool" = some true)
  | .int _ => (by decide +kernel : kitB "int" "bool" = some false)
  | .str _ => (by decide +kernel : kitB "str" "bool" = some false)
  | .list _ => (by decide +kernel : kitB "list" "bool" = some false)
  | .tuple _ => (by decide +kernel : kitB "tuple" "bool" = some false)
  | .dict _ => (by decide +kernel : kitB "dict" "bool" = some false)
theorem word_name {K : PySem.W.Frag} {nd : Bool} {H : Hp} {v : V} {d : PyData} (h : Sh K nd H v d) : nameV v = wordD d := by
  cases h <;> rfl
theorem fit_all {n m : Nat} : ∀ {ds : List PyData} {i : Nat} {d : PyData}, FitAll n m ds → ds[i]? = some d → Fit n m d
  | [], i, d, _, e => by simp at e
  | x :: r, i, d, a, e => by
    obtain ⟨a1, a2, a3, a4⟩ := a
    simp only [PyData.showableAll, Bool.and_eq_true] at a1
    simp only [PyData.leavesShortAll, Bool.and_eq_true] at a2
    simp only [PyData.weightAll] at a3
    simp only [PyData.depthAll] at a4
    cases i with
    | zero =>
      have e2 : x = d := by simpa using e
      subst e2
      exact ⟨a1.1, a2.1, by omega, by omega⟩
    | succ i => exact fit_all (ds := r) (i := i) ⟨a1.2, a2.2, by omega, by omega⟩ (by simpa using e)
theorem fit_tup {n m : Nat} {ds : List PyData} (h : Fit n m (.tuple ds)) : FitAll n m ds := by
  obtain ⟨a1, a2, a3, a4⟩ := h
  simp only [PyData.showable] at a1
  simp only [PyData.leavesShort] at a2
  simp only [PyData.weight] at a3
  simp only [PyData.depth] at a4
  exact ⟨a1, a2, by omega, by omega⟩
theorem fit_len {n m : Nat} : ∀ {ds : List PyData}, FitAll n m ds → ds.length ≤ n
  | [], _ => Nat.zero_le _
  | x :: r, a => by
    obtain ⟨a1, a2, a3, a4⟩ := a
    simp only [PyData.showableAll, Bool.and_eq_true] at a1
    simp only [PyData.leavesShortAll, Bool.and_eq_true] at a2
    simp only [PyData.weightAll] at a3
    simp only [PyData.depthAll] at a4
    have := fit_len (ds := r) (n := n - 1 - x.weight) (m := m) ⟨a1.2, a2.2, by omega, by omega⟩
    simp only [List.length_cons]
    omega
theorem fit_str {K : PySem.W.Frag} {nd : Bool} {H : Hp} {n m : Nat} {v : V} {d : PyData} (h : Sh K nd H v d) (hf : Fit n m d) (hn : n ≤ 10000 := by decide) : ∀ x, v = .str x → x.length ≤ 10000 := by
  intro x e
  subst e
  cases h
  have h := hf.2.2.1
  simp only [PyData.weight] at h
  exact Nat.le_trans h hn
theorem shGet {K : PySem.W.Frag} {nd : Bool} {H : Hp} : ∀ {vs : List V} {ds : List PyData} {i : Nat} {v : V}, ShAll K nd H vs ds → vs[i]? = some v → ∃ d, ds[i]? = some d ∧ Sh K nd H v d
  | _, _, _, _, .nil, e => by simp at e
  | _, _, 0, _, .cons a _, e => by
    simp at e
    subst e
    exact ⟨_, rfl, a⟩
  | _, _, i + 1, v, .cons _ b, e => by
    obtain ⟨d, h1, h2⟩ := shGet (i := i) (v := v) b (by simpa using e)
    exact ⟨d, by simpa using h1, h2⟩
theorem ifI_ne {i j : Int} {A B : Prop} (h : i ≠ j) (b : B) : if decide (V.int i = V.int j) = true then A else B := by
  rw [if_neg]
  · exact b
  · intro z
    have := of_decide_eq_true z
    injection this with this
    exact h this
theorem ifI_eq {i : Int} {A B : Prop} (a : A) : if decide (V.int i = V.int i) = true then A else B := by
  rw [if_pos (decide_eq_true rfl)]
  exact a
def rListNT (K : PySem.W.Frag) : List V → Hp → VK → Prop := fun xs H Q => ∃ p ys, xs = [.ref p] ∧ SqT K H p ys ∧
  ∀ l, H l = none → l ≠ sysModules → Q (.ref l) (upd H l (.lst ys))
theorem call_listNT {X : Cx} (low : sysModules < X.base.objs.size) : CallR X (.type "list") (rListNT X.K) := by
  intro pins s σ H xs us Q I r h
  obtain ⟨p, ys, rfl, hq, q⟩ := h
  obtain ⟨u, rfl, rx⟩ := vals1 r
  cases rx
  obtain ⟨its, rv, pl, hz⟩ := I.tuple hq
  have hlen := rv.length
  obtain ⟨o, ho, hc, n, hd⟩ := pl
  refine call_list_seq p (.inr rfl) ho hc hd ?_ (by simp only [List.size_toArray]; omega)
  intro h2 c2 kp e
  have ok : ObjOk X.prog X.w (upd H s.heap.objs.size (.lst ys)) h2 s.heap.objs.size (.lst ys) := ⟨hz, its, c2, rv, e⟩
  exact ⟨.ref s.heap.objs.size, _, I.laid (t' := s.toks) kp (Nat.le_refl _) ok, rfl, q _ (I.hok.fresh (Nat.le_refl _)) (new_low low I)⟩
/-- new places -/
def NewAt (H : Hp) : Addr → Prop := fun a => H a = none ∧ a ≠ sysModules
theorem but_free {p c : Addr} {H H1 : Hp} (hp : PotAt H1 p) (b : But p H H1) (h : H1 c = none) : H c = none := by
  cases e : H c with
  | none => rfl
  | some o =>
    by_cases z : c = p
    · subst z
      obtain ⟨_, _, e2, _⟩ := hp
      rw [e2] at h
      cases h
    · rw [b _ _ z e] at h
      cases h
theorem ShO.mono {ok ok' : Addr → Prop} {H : Hp} (h : ∀ a, ok a → ok' a) : ∀ {v : V} {d : PyData}, ShO ok H v d → ShO ok' H v d := by
  intro v d s
  exact ShO.rec (motive_1 := fun v d _ => ShO ok' H v d) (motive_2 := fun vs ds _ => ShOs ok' H vs ds) .non .bl .int .str
    (fun h1 h2 _ ih => .lst h1 (h _ h2) ih) (fun h1 _ ih => .tup h1 ih) (fun h1 _ _ i1 i2 => .dict h1 i1 i2) .nil (fun _ _ i1 i2 => .cons i1 i2) s
theorem units65 {k : Nat} {A : Around} (r : Room k A) : A.units + 65 < cLine := by
  have := r.un
  omega
def rLenQ (K : PySem.W.Frag) : List V → Hp → VK → Prop := fun xs H Q => ∃ p ys, xs = [.ref p] ∧ (SqL K H p ys ∨ SqT K H p ys) ∧ Q (.int ys.length) H
theorem met_full {xs : List Str} : ∀ i, i ≤ xs.length → met xs i = i → (xs.take i).Nodup
  | 0, _, _ => by
    rw [List.take_zero]
    exact List.nodup_nil
  | i + 1, hi, h => by
    have hl := met_le xs i
    have h2 : (if (xs.take i).any (· == xs.getD i Str.empty) then met xs i else met xs i + 1) = i + 1 := h
    have e : xs[i]? = some xs[i] := List.getElem?_eq_getElem (by omega)
    split at h2
    · omega
    · rename_i hn
      have ih := met_full (xs := xs) i (by omega) (by omega)
      rw [List.take_add_one, e]
      refine List.nodup_append.mpr ⟨ih, List.pairwise_singleton _ _, fun x hx y hy => ?_⟩
      have hy2 : y = xs[i] := by simpa using hy
      intro z
      apply hn
      rw [List.any_eq_true]
      refine ⟨x, hx, ?_⟩
      rw [List.getD_eq_getElem?_getD, e, z, hy2]
      exact beq_self_eq_true _
theorem met_iff (xs : List Str) : decide (met xs xs.length = xs.length) = decide xs.Nodup := by
  by_cases h : xs.Nodup
  · rw [decide_eq_true h, decide_eq_true (met_nodup h _ (Nat.le_refl _))]
  · rw [decide_eq_false h, decide_eq_false]
    intro z
    have := met_full _ (Nat.le_refl _) z
    rw [List.take_length] at this
    exact h this
end Lw
namespace Lw
open PySem PySem.Spec PyProof.Rows L2 Kv
def topS (i : Nat) : Stmt := PySem.Challenge.pw_fewestmethods_k13_first_invalid_class.main.body.getD i (.Pass ⟨0, 0, 0, 0⟩)
abbrev c_MethodsError : Stmt := topS 2
abbrev i_MethodsError : Stmt := inClass c_MethodsError 0
abbrev c_InvalidHierarchy : Stmt := topS 3
abbrev i_InvalidHierarchy : Stmt := inClass c_InvalidHierarchy 0
abbrev c_InvalidName : Stmt := topS 4
abbrev i_InvalidName : Stmt := inClass c_InvalidName 0
abbrev c_InvalidSuperclasses : Stmt := topS 5
abbrev i_InvalidSuperclasses : Stmt := inClass c_InvalidSuperclasses 0
abbrev c_InvalidText : Stmt := topS 6
abbrev i_InvalidText : Stmt := inClass c_InvalidText 0
abbrev c_NotFound : Stmt := topS 7
abbrev i_NotFound : Stmt := inClass c_NotFound 0
abbrev sIsName : Stmt := topS 11
abbrev sAre : Stmt := topS 14
abbrev sProb : Stmt := topS 15
abbrev sAnc : Stmt := topS 16
abbrev sWrite : Stmt := topS 17
abbrev sRead : Stmt := topS 18
abbrev cHier : Stmt := topS 19
abbrev m_init : Stmt := inClass cHier 1
abbrev m_read : Stmt := inClass cHier 2
abbrev m_of : Stmt := inClass cHier 3
abbrev m_eq : Stmt := inClass cHier 4
abbrev m_len : Stmt := inClass cHier 5
abbrev m_repr : Stmt := inClass cHier 6
abbrev m_str : Stmt := inClass cHier 7
abbrev m_names : Stmt := inClass cHier 8
abbrev m_has_class : Stmt := inClass cHier 9
abbrev m_superclasses : Stmt := inClass cHier 10
abbrev m_position_of : Stmt := inClass cHier 11
abbrev m_require_class : Stmt := inClass cHier 12
abbrev m_is_at_or_below : Stmt := inClass cHier 13
abbrev m_ancestors : Stmt := inClass cHier 14
abbrev m_descendants : Stmt := inClass cHier 15
abbrev m_highest_common : Stmt := inClass cHier 16
abbrev m_with_class : Stmt := inClass cHier 17
abbrev m_without_class : Stmt := inClass cHier 18
abbrev sPot : Stmt := topS 21
abbrev sDraw : Stmt := topS 22
abbrev sMixed : Stmt := topS 23
abbrev sName : Stmt := topS 24
abbrev sNames : Stmt := topS 25
abbrev sKinds : Stmt := topS 26
abbrev sLGood : Stmt := topS 27
abbrev sLProb : Stmt := topS 28
abbrev sLDue : Stmt := topS 29
abbrev sTold : Stmt := topS 30
abbrev sBad : Stmt := topS 31
abbrev sSpoilt : Stmt := topS 32
abbrev sRight : Stmt := topS 33
abbrev sLaw : Stmt := topS 34
end Lw
namespace Lw
open PySem PySem.Spec PyProof.Rows L2 Kv
theorem scPot : FnScope ["_law_script", "_law_k", "_law_cell"] ["_law_script", "_law_k"] (defScope sPot) :=
  ⟨rfl, rfl, rfl, by decide +kernel, rfl, by decide +kernel, by decide +kernel⟩
theorem scDraw : FnScope ["_law_pot_here", "_law_many", "_law_digit"] ["_law_pot_here", "_law_many"] (defScope sDraw) :=
  ⟨rfl, rfl, rfl, by decide +kernel, rfl, by decide +kernel, by decide +kernel⟩
section
variable {P : Program} {w : World} {K : PySem.W.Frag} {mg : Str → Option Value} {base : Heap}
def spPot (K : PySem.W.Frag) : Sp := fun vs H Q _ => ∃ (a : Addr) (ns : List Int) (j : Nat),
  vs = [.ref a, .int j] ∧ SqL K H a (ns.map V.int) ∧ j ≤ 1000 ∧
  ∀ p H', Same H H' → H p = none → PotAt H' p → Q (.ref p) H'
theorem ok_pot {f : Addr} {fd : FuncData} {k : Nat} (F : Fun K "_law_pot" "_law_pot" sPot f fd)
    (ml : mg "len" = none) (mm : mg "max" = none) (ma : mg "abs" = none) :
    FnOk P w K mg base CX0 (k + 1) f fd ["_law_script", "_law_k"] (spPot K) := by
  refine F.ok scPot (fun vs H Q E h => ?_) (fun cdv A outer s H vs Q E hr h => ?_)
  · obtain ⟨a, ns, j, rfl, _⟩ := h
    rfl
  · obtain ⟨a, ns, j, rfl, hS, hj, q⟩ := h
    refine ⟨_, pss_cons (ps_set (i := 2) scPot.nd rfl (.inl rfl)
        (pe_ifExp (pt_cmpR op_lt (pv 1) (pe_callB call_len_seq (by rfl) ml PySem.boot_len (pa_cons (pv 0) pa_nil)) (nomark _))
          (pe_ix ix_list (pv 0) (pv 1) (fun _ _ => rfl)) pe_int))
      (pss_one (ps_ret (pe_lst (pa_cons
        (pe_callB (call_max2 rfl) (by rfl) mm (by decide +kernel) (pa_cons pe_int (pa_cons
          (pe_op op_sub (pe_callB call_abs (by rfl) ma (by decide +kernel) (pa_cons (pv 2) pa_nil)) (pe_op op_pow pe_int pe_int)) pa_nil)))
        (pa_cons (pe_op op_mod (pe_op op_add (pe_op op_add (pe_op op_mul (pe_op op_mod (pe_callB call_abs (by rfl) ma (by decide +kernel) (pa_cons (pv 2) pa_nil)) pe_int) pe_int)
          (pe_op op_mul pe_int (pv 1))) pe_int) pe_int) pa_nil))))), ?_⟩
    refine ⟨.int j, rfl, .ref a, rfl, a, _, rfl, .inl hS, _, _, rfl, rfl, _, rfl, ite2 (fun e => ?_) (fun e => ?_)⟩
    · have e1 : (j : Int) < ((ns.map V.int).length : Int) := of_decide_eq_true e
      have e2 : j < ns.length := by
        rw [List.length_map] at e1
        omega
      refine ⟨.ref a, rfl, .int j, rfl, a, _, j, .int ns[j], rfl, rfl, hS, atI_nat (j := j) (by
        rw [List.getElem?_map, List.getElem?_eq_getElem e2]
        rfl), ?_⟩
      generalize ns[j] = c
      have b1 : 0 ≤ (if c < 0 then -c else c) % 2147483587 := Int.emod_nonneg _ (by decide)
      have b2 : (if c < 0 then -c else c) % 2147483587 < 2147483587 := Int.emod_lt_of_pos _ (by decide)
      refine ⟨.int c, rfl, c, rfl, 10, 18, rfl, rfl, ⟨by decide, by decide, by decide⟩, _, _, rfl, rfl, _, _, rfl,
        .int c, rfl, c, rfl, _, _, rfl, rfl, (by decide : (0 : Int) < 2147483587), _, _, rfl, rfl, .inl ⟨?_, ?_⟩,
        .int j, rfl, _, _, rfl, rfl, .inl ⟨by decide, by decide⟩, _, _, rfl, rfl, _, _, rfl, rfl, _, _, rfl, rfl, (by decide : (0 : Int) < 2147483647),
        (by decide : 2 ≤ sizeLine), fun p np => ?_⟩
      · omega
      · omega
      · exact q p _ (same_new np) np ⟨_, _, upd_same, by split <;> omega, Int.emod_nonneg _ (by decide), Int.emod_lt_of_pos _ (by decide)⟩
    · have b1 : 0 ≤ (if (0 : Int) < 0 then -0 else 0) % 2147483587 := Int.emod_nonneg _ (by decide)
      have b2 : (if (0 : Int) < 0 then -0 else 0) % 2147483587 < 2147483587 := Int.emod_lt_of_pos _ (by decide)
      refine ⟨.int 0, rfl, 0, rfl, 10, 18, rfl, rfl, ⟨by decide, by decide, by decide⟩, _, _, rfl, rfl, _, _, rfl,
        .int 0, rfl, 0, rfl, _, _, rfl, rfl, (by decide : (0 : Int) < 2147483587), _, _, rfl, rfl, .inl ⟨?_, ?_⟩,
        .int j, rfl, _, _, rfl, rfl, .inl ⟨by decide, by decide⟩, _, _, rfl, rfl, _, _, rfl, rfl, _, _, rfl, rfl, (by decide : (0 : Int) < 2147483647),
        (by decide : 2 ≤ sizeLine), fun p np => ?_⟩
      · omega
      · omega
      · exact q p _ (same_new np) np ⟨_, _, upd_same, by split <;> omega, Int.emod_nonneg _ (by decide), Int.emod_lt_of_pos _ (by decide)⟩
end
section
variable {P : Program} {w : World} {K : PySem.W.Frag} {mg : Str → Option Value} {base : Heap}
def spDraw : Sp := fun vs H Q _ => ∃ (p : Addr) (m : Int), vs = [.ref p, .int m] ∧ PotAt H p ∧ 0 < m ∧ m ≤ 10 ^ 60 ∧
  ∀ H' (d : Int), 0 ≤ d → d < m → PotAt H' p → But p H H' → Q (.int d) H'
theorem ok_draw {f : Addr} {fd : FuncData} {k : Nat} (F : Fun K "_law_draw" "_law_draw" sDraw f fd)
    (md : mg "divmod" = none) : FnOk P w K mg base CX0 (k + 1) f fd ["_law_pot_here", "_law_many"] spDraw := by
  refine F.ok scDraw (fun vs H Q E h => ?_) (fun cdv A outer s H vs Q E hr h => ?_)
  · obtain ⟨a, m, rfl, _⟩ := h
    rfl
  · obtain ⟨a, m, rfl, ⟨r, g, hp, r0, g0, g1⟩, m0, m1, q⟩ := h
    refine ⟨_, pss_cons (ps_if (pt_cmpR op_gt (pe_ix ix_list (pv 0) pe_int (fun _ _ => rfl)) pe_int (nomark _))
        (pss_cons (ps_asg (pe_callB call_divmodW (by rfl) md (by decide +kernel) (pa_cons (pe_ix ix_list (pv 0) pe_int (fun _ _ => rfl)) (pa_cons (pv 1) pa_nil)))
            (pg_tup (by rfl) (pgs_cons (pg_sub (pv 0) pe_int set_list) (pgs_cons (pg_name (i := 2) scDraw.nd rfl (.inl rfl)) pgs_nil))))
          (pss_one (ps_ret (pv 2)))) pss_nil)
      (pss_cons (ps_asg (pe_op op_mod (pe_op op_add (pe_op op_mul (pe_ix ix_list (pv 0) pe_int (fun _ _ => rfl)) pe_int) pe_int) pe_int) (pg_sub (pv 0) pe_int set_list))
      (pss_one (ps_ret (pe_op op_mod (pe_op op_fdiv (pe_op op_mod (pe_op op_mul (pe_ix ix_list (pv 0) pe_int (fun _ _ => rfl)) (pe_ix ix_list (pv 0) pe_int (fun _ _ => rfl))) pe_int) pe_int) (pv 1))))), ?_⟩
    have hS : SqL K H a [.int r, .int g] := .inl (.inl hp)
    refine ⟨.ref a, rfl, a, _, 0, .int r, rfl, rfl, hS, rfl, _, _, rfl, rfl, _, rfl, ite2 (fun e => ?_) (fun e => ?_)⟩
    · have e1 : r > 0 := of_decide_eq_true e
      refine ⟨.ref a, rfl, a, _, 0, .int r, rfl, rfl, hS, rfl, .int m, rfl, _, _, rfl, divp_small m0 ?_, fun t nt => ?_⟩
      · have : m.natAbs ≤ 10 ^ 60 := by omega
        exact Nat.lt_of_le_of_lt this (Nat.lt_of_lt_of_le (by decide : 10 ^ 60 < 2 ^ 200) (Nat.pow_le_pow_right (by decide) (by decide)))
      · have nta : a ≠ t := ne_of_none hp nt
        refine ⟨t, _, rfl, .inl (.inl upd_same), rfl, _, _, rfl, .ref a, rfl, a, _, 0, 0, rfl, rfl, (by rw [upd_ne nta]; exact hp), rfl, _, _, rfl, rfl, _, rfl, ?_⟩
        refine q _ _ (Int.emod_nonneg _ (by omega)) (Int.emod_lt_of_pos _ m0) ⟨_, _, upd_same, Int.ediv_nonneg r0 (by omega), g0, g1⟩ ?_
        intro b o nb hb
        rw [upd_ne nb, upd_ne (ne_of_none hb nt)]
        exact hb
    · refine ⟨.ref a, rfl, a, _, 1, .int g, rfl, rfl, hS, rfl, _, _, rfl, rfl, .inl ⟨by omega, by omega⟩, _, _, rfl, rfl, _, _, rfl, rfl, (by decide : (0 : Int) < 2147483629),
        .ref a, rfl, a, _, 1, 1, rfl, rfl, hp, rfl, ?_⟩
      have b0 : 0 ≤ ((g * 39373 + 12227) % 2147483629) := Int.emod_nonneg _ (by decide)
      have b1 : ((g * 39373 + 12227) % 2147483629) < 2147483629 := Int.emod_lt_of_pos _ (by decide)
      have hS2 : SqL K (upd H a (.lst [.int r, .int ((g * 39373 + 12227) % 2147483629)])) a [.int r, .int ((g * 39373 + 12227) % 2147483629)] := .inl (.inl upd_same)
      refine ⟨.ref a, rfl, a, _, 1, .int ((g * 39373 + 12227) % 2147483629), rfl, rfl, hS2, rfl, .ref a, rfl, a, _, 1, .int ((g * 39373 + 12227) % 2147483629), rfl, rfl, hS2, rfl, _, _, rfl, rfl, .inl ⟨by omega, by omega⟩,
        _, _, rfl, rfl, (by decide : (0 : Int) < 2147483563), _, _, rfl, rfl, ⟨by decide, by decide⟩, .int m, rfl, _, _, rfl, rfl, m0, ?_⟩
      refine q _ _ (Int.emod_nonneg _ (by omega)) (Int.emod_lt_of_pos _ m0) ⟨_, _, upd_same, r0, b0, by omega⟩ ?_
      intro b o nb hb
      rw [upd_ne nb]
      exact hb
end
end Lw
namespace Lw
open PySem PySem.Spec PyProof.Rows L2 Kv
theorem scIsName : FnScope ["value", "letter"] ["value"] (defScope sIsName) :=
  ⟨rfl, rfl, rfl, by decide +kernel, rfl, by decide +kernel, by decide +kernel⟩
section
variable {P : Program} {w : World} {K : PySem.W.Frag} {mg : Str → Option Value} {base : Heap}
def spName (K : PySem.W.Frag) : Sp := fun vs H Q _ => ∃ (v : V) (nd : Bool) (d : PyData), vs = [v] ∧ Sh K nd H v d ∧ (∀ x, v = .str x → x.length ≤ 10000) ∧ ∀ H', Same H H' → Q (.bl (nameV v)) H'
theorem ok_isname {f : Addr} {fd : FuncData} {k : Nat} {t1 t2 : Tok} (F : Fun K "is_name" "is_name" sIsName f fd)
    (mi : mg "isinstance" = none) (ms : mg "str" = none) (ml : mg "len" = none) (ma : mg "all" = none)
    (g1 : mg "LETTERS" = some (.str "abcdefghijklmnopqrstuvwxyz" t1)) (g2 : mg "LONGEST_NAME" = some (.int 8 t2)) :
    FnOk P w K mg base CX0 (k + 1) f fd ["value"] (spName K) := by
  refine F.ok scIsName (fun vs H Q E h => ?_) (fun cdv A outer s H vs Q E hr h => ?_)
  · obtain ⟨a, _, _, rfl, _⟩ := h
    rfl
  · obtain ⟨v, nd, d, rfl, sh, hv, q⟩ := h
    refine ⟨_, pss_cons (ps_if (pt_not (pt_val (pe_callB call_isi (by rfl) mi (by decide +kernel) (pa_cons (pv 0)
          (pa_cons (pe_bltn (v := .ty "str") (by rfl) ms (by decide +kernel : bootBuiltins "str" = some (.type "str")) rfl) pa_nil))))) (pss_one (ps_ret pe_bl)) pss_nil)
      (pss_one (ps_ret (pe_and (pe_chain op_le op_le pe_int (pe_callB call_len_str (by rfl) ml PySem.boot_len (pa_cons (pv 0) pa_nil)) (pe_glob (v := .int 8) (by rfl) g2 ⟨_, rfl⟩))
        (pe_one (pe_callB (cr_all rfl) (by rfl) ma (by decide +kernel) (pa_cons
          (pe_lc (own := [("letter", 1)]) (g := gName 1) (tt := tYes) rfl scIsName.nd (pi_str (pv 0))
            (blkOk_by (own := [("letter", 1)]) (N := ["value", "letter"]) (sc := defScope sIsName) (by decide +kernel))
            (fun _ _ _ _ _ => pg_name (i := 1) scIsName.nd rfl (Or.inl rfl)) (fun _ _ _ _ _ => pts_nil)
            (fun _ _ _ _ _ => pe_cmpR op_in_sign (pv 1) (pe_glob (v := .str "abcdefghijklmnopqrstuvwxyz") (by rfl) g1 ⟨_, rfl⟩) rfl)) pa_nil)))))), ?_⟩
    obtain ⟨T, ty, hT⟩ := sh.ty
    rcases hT with ⟨x, rfl, rfl⟩ | ⟨hne, hT⟩
    · have hx := hv x rfl
      have hxl : x.length ≤ sizeLine := szle hx
      refine ⟨.str x, rfl, .str x, .ty "str", _, _, true, rfl, .ty "str", ty, kit_ty (by decide +kernel), true, rfl, iteF ?_⟩
      refine ⟨.str x, rfl, x, rfl, hxl, _, _, rfl, rfl, _, rfl, ite2 (fun e => ?_) (fun e => ?_)⟩
      · have e1 : (1 : Int) ≤ x.length := of_decide_eq_true e
        refine ⟨_, _, rfl, rfl, _, rfl, ite2 (fun e2 => ?_) (fun e2 => ?_)⟩
        · have e3 : (x.length : Int) ≤ 8 := of_decide_eq_true e2
          refine ⟨.str x, rfl, x, rfl, fun D nD => ?_⟩
          refine lc_it walk_str (fun i H3 => H3 = upd H D (.lst ((x.cps.toList.take i).map fun c => .bl (inAz c)))) ?_ (fun _ _ _ _ => trivial) (fun i y H3 H4 hi hP hY => ?_) (fun H3 hP => ?_)
          · rfl
          · obtain ⟨rfl, c, hc, rfl⟩ := hY
            subst hP
            refine ⟨rfl, .str ⟨#[c]⟩, rfl, c, _, rfl, rfl, _, upd_same, ?_, ?_⟩
            · rw [List.length_map, List.length_take]
              exact sz1 (by
                have : i < x.length := hi
                omega)
            · have hc2 : x.cps.toList[i]? = some c := by
                rw [Array.getElem?_toList]
                exact hc
              rw [upd_upd, List.take_add_one, hc2, List.map_append]
              rfl
          · subst hP
            refine ⟨D, (x.cps.toList.take x.cps.size).map inAz, rfl, .inl (.inl ?_), ?_⟩
            · rw [upd_same, List.map_map]
              rfl
            · have e4 : x.cps.toList.take x.cps.size = x.cps.toList := List.take_of_length_le (by rw [Array.length_toList]; exact Nat.le_refl _)
              have e5 : ((x.cps.toList.take x.cps.size).map inAz).all id = nameV (.str x) := by
                rw [e4, List.all_map]
                show _ = ((decide (1 ≤ x.length) && decide (x.length ≤ 8)) && x.cps.toList.all inAz)
                rw [decide_eq_true (by omega : 1 ≤ x.length), decide_eq_true (by omega : x.length ≤ 8)]
                rfl
              rw [e5]
              exact q _ (same_new nD)
        · have e3 : ¬ (x.length : Int) ≤ 8 := fun z => e2 (decide_eq_true z)
          have e5 : nameV (.str x) = false := by
            show ((decide (1 ≤ x.length) && decide (x.length ≤ 8)) && x.cps.toList.all inAz) = false
            rw [decide_eq_false (by omega : ¬ x.length ≤ 8), Bool.and_false, Bool.false_and]
          have := q H (Same.refl _)
          rw [e5] at this
          exact this
      · have e1 : ¬ (1 : Int) ≤ x.length := fun z => e (decide_eq_true z)
        have e5 : nameV (.str x) = false := by
          show ((decide (1 ≤ x.length) && decide (x.length ≤ 8)) && x.cps.toList.all inAz) = false
          rw [decide_eq_false (by omega : ¬ 1 ≤ x.length), Bool.false_and, Bool.false_and]
        have := q H (Same.refl _)
        rw [e5] at this
        exact ⟨false, rfl, iteF this⟩
    · have hk : kitB T "str" = some false := by
        rcases hT with rfl | rfl | rfl | rfl | rfl | rfl <;> decide +kernel
      have := q H (Same.refl _)
      rw [nameV_not hne] at this
      exact ⟨v, rfl, v, .ty "str", _, _, false, rfl, .ty "str", ty, kit_ty hk, false, rfl, iteT this⟩
end
end Lw
namespace Lw
open PySem PySem.Spec PyProof.Rows L2 Kv
theorem perm_erase {α : Type} : ∀ (l : List α) (i : Nat) (x : α), l[i]? = some x → (x :: l.eraseIdx i).Perm l
  | [], i, x, h => by simp at h
  | y :: r, 0, x, h => by
    have e : y = x := by simpa using h
    subst e
    exact List.Perm.refl _
  | y :: r, i + 1, x, h => by
    have ih := perm_erase r i x (by simpa using h)
    exact (List.Perm.swap y x (r.eraseIdx i)).trans (ih.cons y)
theorem len_erase {α : Type} {l : List α} {i : Nat} {x : α} (h : l[i]? = some x) : (l.eraseIdx i).length + 1 = l.length :=
  (perm_erase l i x h).length_eq
theorem seqIx {d : Int} {n : Nat} (h0 : 0 ≤ d) (h1 : d < n) : seqIndex? d n = some d.toNat := by
  unfold seqIndex?
  simp only [show ¬ d < 0 by omega, if_false]
  simp [h0, h1]
/-- one letter each -/
theorem join_az : ∀ ys : List Str, (∀ y ∈ ys, ∃ c, c ∈ az ∧ y = ⟨#[c]⟩) →
    (Txt.join "" ys).length = ys.length ∧ ∀ c ∈ (Txt.join "" ys).cps.toList, c ∈ az := by
  intro ys hy
  have e : (Txt.join "" ys).cps.toList = (ys.map TL.tl).flatten := by
    rw [TL.join_eq]
    show TL.tl (Str.join _ _) = _
    rw [TL.tl_join]
    exact joinL_nil _
  refine ⟨?_, fun c hc => ?_⟩
  · rw [Kv.len_list, e]
    clear e
    induction ys with
    | nil => rfl
    | cons y r ih =>
      obtain ⟨c, _, h1⟩ := hy y (List.mem_cons_self ..)
      have h2 := ih fun z hz => hy z (List.mem_cons_of_mem _ hz)
      simp only [List.map_cons, List.flatten_cons, List.length_append, List.length_cons, h2]
      have h3 : (TL.tl y).length = 1 := by
        rw [h1]
        rfl
      omega
  · rw [e] at hc
    obtain ⟨l, hl, hcl⟩ := List.mem_flatten.mp hc
    obtain ⟨y, hm, rfl⟩ := List.mem_map.mp hl
    obtain ⟨d, hd, rfl⟩ := hy y hm
    have : c = d := by simpa [TL.tl] using hcl
    rw [this]
    exact hd
theorem name_sm {x : Str} (h : nameV (.str x) = true) : Sm 8 x := by
  have h1 : ((decide (1 ≤ x.length) && decide (x.length ≤ 8)) && x.cps.toList.all inAz) = true := h
  simp only [Bool.and_eq_true, decide_eq_true_eq, List.all_eq_true] at h1
  refine ⟨h1.1.2, fun c hc => ?_⟩
  have h2 := of_decide_eq_true (h1.2 c hc)
  have : ∀ z ∈ az, z < 128 := by decide +kernel
  exact this c h2
section
variable {P : Program} {w : World} {K : PySem.W.Frag} {mg : Str → Option Value} {base : Heap}
/-- what len of a list or tuple asks -/
def rLenS (K : PySem.W.Frag) : List V → Hp → VK → Prop := fun xs H Q => ∃ p ys, xs = [.ref p] ∧ (SqL K H p ys ∨ SqT K H p ys) ∧ Q (.int ys.length) H
theorem scMixed : FnScope ["_law_pot_here", "_law_some", "_law_left", "_law_turn"] ["_law_pot_here", "_law_some"] (defScope sMixed) :=
  ⟨rfl, rfl, rfl, by decide +kernel, rfl, by decide +kernel, by decide +kernel⟩
def spMixed (K : PySem.W.Frag) : Sp := fun vs H Q _ => ∃ (p b : Addr) (xs : List V), vs = [.ref p, .ref b] ∧ PotAt H p ∧ SqL K H b xs ∧ xs.length ≤ 100 ∧
  ∀ H' D (ys : List V), PotAt H' p → But p H H' → H D = none → D ≠ p → H' D = some (.lst ys) → ys.Perm xs → Q (.ref D) H'
theorem ok_mixed {f fD : Addr} {fd fdD : FuncData} {k : Nat} (F : Fun K "_law_mixed" "_law_mixed" sMixed f fd)
    (FD : Fun K "_law_draw" "_law_draw" sDraw fD fdD) (bD : Binds K fdD ["_law_pot_here", "_law_many"] [])
    (gD : mg "_law_draw" = some (.ref fD)) (md : mg "divmod" = none) (mr : mg "range" = none) (ml : mg "len" = none) (mL : mg "list" = none) :
    FnOk P w K mg base CX0 (k + 2) f fd ["_law_pot_here", "_law_some"] (spMixed K) := by
  have GD : FnOk P w K mg base CX0 (k + 1) fD fdD ["_law_pot_here", "_law_many"] spDraw := ok_draw FD md
  refine F.ok scMixed (fun vs H Q E h => ?_) (fun cdv A outer s H vs Q E hr h => ?_)
  · obtain ⟨a, b, xs, rfl, _⟩ := h
    rfl
  · obtain ⟨p, b, xs, rfl, hp, hb, hx, q⟩ := h
    refine ⟨_, pss_cons (ps_set (i := 2) scMixed.nd rfl (.inr rfl) (pe_callTy call_list_of (by rfl) mL (by decide +kernel) (pa_cons (pv 1) pa_nil)))
      (pss_one (ps_ret (pe_lc (own := [("_law_turn", 3)]) (g := gName 3) (tt := tYes)
        (te := tBM K "list" rPopAt (tVar 2) (tCons (tCall spDraw [] E0 (tCons (tVar 0) (tCons (tCB (rLenS K) (tCons (tVar 2) tNil)) tNil))) tNil)) rfl scMixed.nd
        (pi_range1 rfl mr (pa_cons (pe_callB call_len_seq (by rfl) ml PySem.boot_len (pa_cons (pv 1) pa_nil)) pa_nil))
        (blkOk_by (own := [("_law_turn", 3)]) (N := ["_law_pot_here", "_law_some", "_law_left", "_law_turn"]) (sc := defScope sMixed) (by decide +kernel))
        (fun _ _ _ _ _ => pg_name (i := 3) scMixed.nd rfl (Or.inl rfl)) (fun _ _ _ _ _ => pts_nil)
        (fun _ _ _ _ _ => pe_bm PySem.F.plainAttrs_list PySem.F.slot_list_pop PySem.F.type_list_pop mt_popAt (pv 2)
          (pa_cons (pe_call GD hr (by rfl) gD FD.kp bD .nil pass0 (pa_cons (pv 0) (pa_cons (pe_callB call_len_seq (by rfl) ml PySem.boot_len (pa_cons (pv 2) pa_nil)) pa_nil))) pa_nil))))), ?_⟩
    refine ⟨.ref b, rfl, b, xs, rfl, .inl hb, fun l nl => ?_⟩
    have nlp : p ≠ l := by
      obtain ⟨_, _, e, _⟩ := hp
      exact ne_of_none e nl
    have s1 : Same H (upd H l (.lst xs)) := same_new nl
    refine ⟨.ref b, rfl, b, xs, rfl, .inl (s1.seq hb), _, rfl, by omega, by omega, fun D nD => ?_⟩
    have nDp : p ≠ D := by
      obtain ⟨_, _, e, _⟩ := hp
      exact ne_of_none (s1 _ _ e) nD
    have nDl : l ≠ D := fun z => by
      rw [← z, upd_same] at nD
      cases nD
    have nD0 : H D = none := s1.free nD
    refine lc_range (lo := 0) (n := (xs.length : Int).toNat) (fun i H3 => ∃ out rest : List V, H3 D = some (.lst out) ∧ H3 l = some (.lst rest) ∧ (out ++ rest).Perm xs ∧ out.length = i ∧ PotAt H3 p ∧ But p H H3)
      ⟨[], xs, upd_same, by rw [upd_ne nDl, upd_same], List.Perm.refl _, rfl, (hp.same s1).same (same_new nD), (But.of_same s1).new nD⟩ (fun i H3 hi hP => ?_) (fun H3 hP => ?_)
    · obtain ⟨out, rest, e1, e2, e3, e4, e5, e6⟩ := hP
      have le := e3.length_eq
      rw [List.length_append] at le
      have hi2 : i < xs.length := by omega
      refine ⟨rfl, .ref l, rfl, .inl ⟨rfl, _, .inl (.inl e2)⟩, .ref p, rfl, .ref l, rfl, l, rest, rfl, .inl (.inl (.inl e2)), p, _, rfl, e5, by omega, by omega, fun H4 d d0 d1 hp4 s4 => ?_⟩
      have hd : d.toNat < rest.length := by omega
      have ey : rest[d.toNat]? = some rest[d.toNat] := List.getElem?_eq_getElem hd
      have e2' := s4 _ _ nlp.symm e2
      refine ⟨l, rest, d, d.toNat, rest[d.toNat], rfl, rfl, e2', by omega, by omega, seqIx d0 d1, ey, ?_⟩
      refine ⟨out, by rw [upd_ne nDl.symm]; exact s4 _ _ nDp.symm e1, sz1 (by omega), ?_⟩
      refine ⟨out ++ [rest[d.toNat]], rest.eraseIdx d.toNat, upd_same, by rw [upd_ne nDl, upd_same], ?_, ?_, ?_, ?_⟩
      · rw [List.append_assoc]
        exact ((perm_erase rest _ _ ey).append_left out).trans e3
      · rw [List.length_append, e4]
        rfl
      · obtain ⟨r, g, e, h⟩ := hp4
        exact ⟨r, g, by rw [upd_ne nDp, upd_ne nlp]; exact e, h⟩
      · intro c o nc hc
        rw [upd_ne (ne_of_none hc nD0), upd_ne (ne_of_none hc nl)]
        exact s4 _ _ nc (e6 _ _ nc hc)
    · obtain ⟨out, rest, e1, e2, e3, e4, e5, e6⟩ := hP
      have le := e3.length_eq
      rw [List.length_append] at le
      have hr0 : rest = [] := List.eq_nil_of_length_eq_zero (by omega)
      rw [hr0, List.append_nil] at e3
      exact q _ D out e5 e6 nD0 nDp.symm e1 e3
theorem scName : FnScope ["_law_pot_here", "_law_letters", "_law_turn"] ["_law_pot_here"] (defScope sName) :=
  ⟨rfl, rfl, rfl, by decide +kernel, rfl, by decide +kernel, by decide +kernel⟩
def spNm : Sp := fun vs H Q _ => ∃ p : Addr, vs = [.ref p] ∧ PotAt H p ∧
  ∀ H' (x : Str), PotAt H' p → But p H H' → nameV (.str x) = true → Q (.str x) H'
theorem ok_name {f fD : Addr} {fd fdD : FuncData} {k : Nat} (F : Fun K "_law_name" "_law_name" sName f fd)
    (FD : Fun K "_law_draw" "_law_draw" sDraw fD fdD) (bD : Binds K fdD ["_law_pot_here", "_law_many"] [])
    (gD : mg "_law_draw" = some (.ref fD)) (md : mg "divmod" = none) (mr : mg "range" = none) :
    FnOk P w K mg base CX0 (k + 2) f fd ["_law_pot_here"] spNm := by
  have GD : FnOk P w K mg base CX0 (k + 1) fD fdD ["_law_pot_here", "_law_many"] spDraw := ok_draw FD md
  refine F.ok scName (fun vs H Q E h => ?_) (fun cdv A outer s H vs Q E hr h => ?_)
  · obtain ⟨a, rfl, _⟩ := h
    rfl
  · obtain ⟨p, rfl, hp, q⟩ := h
    refine ⟨_, pss_cons (ps_set (i := 1) scName.nd rfl (.inr rfl) pe_str)
      (pss_one (ps_ret (pe_join pe_str (pe_lc (own := [("_law_turn", 2)]) (g := gName 2) (tt := tYes) rfl scName.nd
        (pi_range1 rfl mr (pa_cons (pe_ix ix_list (pe_lst (pa_cons pe_int (pa_cons pe_int (pa_cons pe_int pa_nil))))
          (pe_call GD hr (by rfl) gD FD.kp bD .nil pass0 (pa_cons (pv 0) (pa_cons pe_int pa_nil))) (fun _ _ => rfl)) pa_nil))
        (blkOk_by (own := [("_law_turn", 2)]) (N := ["_law_pot_here", "_law_letters", "_law_turn"]) (sc := defScope sName) (by decide +kernel))
        (fun _ _ _ _ _ => pg_name (i := 2) scName.nd rfl (Or.inl rfl)) (fun _ _ _ _ _ => pts_nil)
        (fun _ _ _ _ _ => pe_ix ix_str (pv 1) (pe_call GD hr (by rfl) gD FD.kp bD .nil pass0 (pa_cons (pv 0) (pa_cons pe_int pa_nil))) (fun _ _ => rfl)))))), ?_⟩
    refine ⟨⟨_, rfl⟩, (by decide : 3 ≤ sizeLine), fun l nl => ?_⟩
    have nlp : p ≠ l := by
      obtain ⟨_, _, e, _⟩ := hp
      exact ne_of_none e nl
    refine ⟨.ref p, rfl, p, 3, rfl, hp.same (same_new nl), by decide, by decide, fun H2 d2 b1 b2 hp2 s2 => ?_⟩
    have hl : H2 l = some (.lst [.int 1, .int 2, .int 8]) := s2 _ _ nlp.symm upd_same
    obtain ⟨n, hn, n0, n1⟩ : ∃ n : Int, atI [V.int 1, V.int 2, V.int 8] d2 = some (.int n) ∧ 1 ≤ n ∧ n ≤ 8 := by
      have : d2 = 0 ∨ d2 = 1 ∨ d2 = 2 := by omega
      rcases this with rfl | rfl | rfl
      · exact ⟨1, rfl, by decide, by decide⟩
      · exact ⟨2, rfl, by decide, by decide⟩
      · exact ⟨8, rfl, by decide, by decide⟩
    refine ⟨l, _, d2, .int n, rfl, rfl, .inl (.inl hl), hn, n, rfl, by omega, by omega, fun D nD => ?_⟩
    have nDp : p ≠ D := by
      obtain ⟨_, _, e, _⟩ := hp2
      exact ne_of_none e nD
    have bt : But p H H2 := (But.of_same (same_new nl)).trans s2
    refine lc_range (lo := 0) (n := n.toNat) (fun i H3 => ∃ ys : List Str, H3 D = some (.lst (ys.map V.str)) ∧ ys.length = i ∧ (∀ y ∈ ys, ∃ c, c ∈ az ∧ y = ⟨#[c]⟩) ∧ PotAt H3 p ∧ But p H2 H3)
      ⟨[], upd_same, rfl, fun y hy => (nomatch hy), hp2.same (same_new nD), But.of_same (same_new nD)⟩ (fun i H3 hi hP => ?_) (fun H3 hP => ?_)
    · obtain ⟨ys, e1, e2, e3, e4, e5⟩ := hP
      refine ⟨rfl, _, rfl, .ref p, rfl, p, 26, rfl, e4, by decide, by decide, fun H4 d c1 c2 hp4 s4 => ?_⟩
      obtain ⟨c, hc, hm⟩ := atI_some (L := ("abcdefghijklmnopqrstuvwxyz" : Str).cps.toList) c1 (by
        have : ("abcdefghijklmnopqrstuvwxyz" : Str).cps.toList.length = 26 := by decide +kernel
        omega)
      refine ⟨_, d, c, rfl, rfl, (by decide +kernel : ("abcdefghijklmnopqrstuvwxyz" : Str).length ≤ sizeLine), hc, _, s4 _ _ nDp.symm e1, ?_, ?_⟩
      · rw [List.length_map]
        exact sz1 (by omega)
      · refine ⟨ys ++ [⟨#[c]⟩], ?_, ?_, ?_, ?_, ?_⟩
        · rw [upd_same, List.map_append]
          rfl
        · rw [List.length_append, e2]
          rfl
        · intro y hy
          rcases List.mem_append.mp hy with z | z
          · exact e3 y z
          · exact ⟨c, hm, List.mem_singleton.mp z⟩
        · obtain ⟨r, g, e, h⟩ := hp4
          exact ⟨r, g, by rw [upd_ne nDp]; exact e, h⟩
        · intro b o nb hb
          rw [upd_ne (ne_of_none hb nD)]
          exact s4 b o nb (e5 b o nb hb)
    · obtain ⟨ys, e1, e2, e3, e4, e5⟩ := hP
      obtain ⟨j1, j2⟩ := join_az ys e3
      refine ⟨_, D, ys, rfl, rfl, .inl (.inl (.inl e1)), ?_, ?_⟩
      · have : ∀ zs : List Str, (∀ y ∈ zs, ∃ c, c ∈ az ∧ y = ⟨#[c]⟩) → (zs.map (·.length)).sum = zs.length := by
          intro zs
          induction zs with
          | nil => intro _; rfl
          | cons y r ih =>
            intro hy
            obtain ⟨c, _, h1⟩ := hy y (List.mem_cons_self ..)
            have h2 := ih fun z hz => hy z (List.mem_cons_of_mem _ hz)
            simp only [List.map_cons, List.sum_cons, List.length_cons, h2]
            have h3 : y.length = 1 := by
              rw [h1]
              rfl
            omega
        have h1 := this ys e3
        have h2 : ("" : Str).length = 0 := by decide +kernel
        rw [h2]
        omega
      · refine q _ _ e4 (bt.trans e5) ?_
        show ((decide (1 ≤ (Txt.join "" ys).length) && decide ((Txt.join "" ys).length ≤ 8)) && (Txt.join "" ys).cps.toList.all inAz) = true
        rw [decide_eq_true (by omega : 1 ≤ (Txt.join "" ys).length), decide_eq_true (by omega : (Txt.join "" ys).length ≤ 8), Bool.true_and, Bool.true_and, List.all_eq_true]
        intro c hc
        exact decide_eq_true (j2 c hc)
end
end Lw
namespace Lw
open PySem PySem.Spec PyProof.Rows L2 Kv
abbrev NNames : List Str := ["_law_pot_here", "_law_many", "_law_found", "_law_turn", "_law_drawn", "_law_free", "_law_letter"]
theorem scNames : FnScope NNames ["_law_pot_here", "_law_many"] (defScope sNames) :=
  ⟨rfl, rfl, rfl, by decide +kernel, rfl, by decide +kernel, by decide +kernel⟩
abbrev NKinds : List Str := ["_law_pot_here", "_law_most", "_law_rows", "_law_label", "_law_many", "_law_row"]
theorem scKinds : FnScope NKinds ["_law_pot_here", "_law_most"] (defScope sKinds) :=
  ⟨rfl, rfl, rfl, by decide +kernel, rfl, by decide +kernel, by decide +kernel⟩
section
variable {P : Program} {w : World} {K : PySem.W.Frag} {mg : Str → Option Value} {base : Heap}
def spNames : Sp := fun vs H Q _ => ∃ (p : Addr) (m : Nat), vs = [.ref p, .int m] ∧ PotAt H p ∧ m ≤ 25 ∧
  ∀ H' D (xs : List Str), PotAt H' p → But p H H' → H D = none → D ≠ p → H' D = some (.lst (xs.map V.str)) → xs.length = m → xs.Nodup →
    (∀ x ∈ xs, nameV (.str x) = true) → Q (.ref D) H'
theorem ok_names {f fN : Addr} {fd fdN : FuncData} {k : Nat} (F : Fun K "_law_names" "_law_names" sNames f fd)
    (FN : Fun K "_law_name" "_law_name" sName fN fdN) (bN : Binds K fdN ["_law_pot_here"] []) (gN : mg "_law_name" = some (.ref fN))
    (GN : FnOk P w K mg base CX0 (k + 2) fN fdN ["_law_pot_here"] spNm) (mr : mg "range" = none) :
    FnOk P w K mg base CX0 (k + 3) f fd ["_law_pot_here", "_law_many"] spNames := by
  refine F.ok scNames (fun vs H Q E h => ?_) (fun cdv A outer s H vs Q E hr h => ?_)
  · obtain ⟨a, m, rfl, _⟩ := h
    rfl
  · obtain ⟨p, m, rfl, hp, hm, q⟩ := h
    refine ⟨_, pss_cons (ps_set (i := 2) scNames.nd rfl (.inr rfl) (pe_lst pa_nil))
      (pss_cons (ps_for PassesOwn.never rfl (pi_range1 rfl mr (pa_cons (pv 1) pa_nil)) (pg_name (i := 3) scNames.nd rfl (.inl rfl))
        (pss_cons (ps_set (i := 4) scNames.nd rfl (.inl rfl) (pe_call GN hr (by rfl) gN FN.kp bN .nil pass0 (pa_cons (pv 0) pa_nil)))
        (pss_cons (ps_setLc (i := 5) (own := [("_law_letter", 6)]) (g := gName 6) (tt := tTest (tOp (rIn K true) (tVar 6) (tVar 2))) (te := tVar 6) rfl scNames.nd rfl rfl
            (sw_true rfl rfl rfl (by decide +kernel)) (pi_str pe_str)
            (blkOk_by (own := [("_law_letter", 6)]) (N := NNames) (sc := defScope sNames) (by decide +kernel))
            (fun _ _ _ _ _ => pg_name (i := 6) scNames.nd rfl (Or.inl rfl)) (fun _ _ _ _ _ => pts_one (pt_cmpR op_notIn_seq (pv 6) (pv 2) (by rfl)))
            (fun _ _ _ _ _ => pv 6))
        (pss_one (ps_expr (pe_bm PySem.F.plainAttrs_list PySem.F.slot_list_append PySem.F.type_list_append mt_append (pv 2)
          (pa_cons (pe_ifExp (pt_cmpR op_in_seq (pv 4) (pv 2) (by rfl)) (pe_ix ix_list (pv 5) pe_int (fun _ _ => rfl)) (pv 4)) pa_nil)))))))
      (pss_one (ps_ret (pv 2)))), ?_⟩
    refine ⟨(by decide : 0 ≤ sizeLine), fun D nD => ?_⟩
    have nDp : p ≠ D := by
      obtain ⟨_, _, e, _⟩ := hp
      exact ne_of_none e nD
    refine ⟨.int m, rfl, m, rfl, by omega, by omega, ?_⟩
    refine for_range (n := (m : Int).toNat) (fun i σ H3 => ∃ (y3 y4 y5 : Option V) (xs : List Str), σ = [some (.ref p), some (.int m), some (.ref D), y3, y4, y5, none] ∧ H3 D = some (.lst (xs.map V.str)) ∧
      xs.length = i ∧ xs.Nodup ∧ (∀ x ∈ xs, nameV (.str x) = true) ∧ PotAt H3 p ∧ But p H H3)
      ⟨none, none, none, [], rfl, upd_same, rfl, List.nodup_nil, fun x hx => (nomatch hx), hp.same (same_new nD), But.of_same (same_new nD)⟩ (fun i σ H3 hi hP => ?_) (fun σ H3 hP => ?_)
    · obtain ⟨y3, y4, y5, xs, rfl, e1, e2, e3, e4, e5, e6⟩ := hP
      have hi2 : i < m := by omega
      refine ⟨.ref p, rfl, p, rfl, e5, fun H4 x hp4 s4 hx => ?_⟩
      have d4 := s4 _ _ nDp.symm e1
      have b4 : But p H H4 := e6.trans s4
      refine ⟨_, rfl, fun L nL => ?_⟩
      have nLp : p ≠ L := by
        obtain ⟨_, _, e, _⟩ := hp4
        exact ne_of_none e nL
      have nLD : D ≠ L := ne_of_none d4 nL
      refine lc_it walk_str (fun j H5 => H5 = upd H4 L (.lst (((letters.take j).filter fun y => decide (y ∉ xs)).map V.str))) ?_ (fun _ _ _ _ => trivial) (fun j y H5 H6 hj hP hY => ?_) (fun H5 hP => ?_)
      · rfl
      · obtain ⟨rfl, c, hc, rfl⟩ := hY
        subst hP
        have hc2 : letters[j]? = some ⟨#[c]⟩ := by
          unfold letters az
          rw [List.getElem?_map, Array.getElem?_toList, hc]
          rfl
        refine ⟨rfl, .str ⟨#[c]⟩, rfl, .ref D, rfl, D, xs.map V.str, rfl, .inl (.inl (.inl (by rw [upd_ne nLD]; exact d4))), rfl, flats xs, _, rfl, ?_⟩
        show if (!inV (.str ⟨#[c]⟩) (xs.map V.str)) = true then _ else _
        rw [inV_strs]
        by_cases hz : (⟨#[c]⟩ : Str) ∈ xs
        · rw [decide_eq_true hz]
          refine iteF ?_
          rw [List.take_add_one, hc2, List.filter_append]
          show _ = upd H4 L (.lst ((_ ++ [(⟨#[c]⟩ : Str)].filter _).map V.str))
          rw [List.filter_cons_of_neg (by simpa using hz), List.filter_nil, List.append_nil]
        · rw [decide_eq_false hz]
          refine iteT ⟨.str ⟨#[c]⟩, rfl, _, upd_same, ?_, ?_⟩
          · rw [List.length_map]
            refine Nat.lt_of_le_of_lt (List.length_filter_le _ _) ?_
            rw [List.length_take]
            have := letters_len
            exact sz1 (by omega)
          · rw [upd_upd, List.take_add_one, hc2, List.filter_append]
            show _ = upd H4 L (.lst ((_ ++ [(⟨#[c]⟩ : Str)].filter _).map V.str))
            rw [List.filter_cons_of_pos (by simpa using hz), List.filter_nil, List.map_append]
            rfl
      · subst hP
        have e26 : letters.take ("abcdefghijklmnopqrstuvwxyz" : Str).cps.size = letters := by decide +kernel
        have L5 : (upd H4 L (.lst (((letters.take ("abcdefghijklmnopqrstuvwxyz" : Str).cps.size).filter fun y => decide (y ∉ xs)).map V.str))) D = some (.lst (xs.map V.str)) := by
          rw [upd_ne nLD]
          exact d4
        have p5 : PotAt (upd H4 L (.lst (((letters.take ("abcdefghijklmnopqrstuvwxyz" : Str).cps.size).filter fun y => decide (y ∉ xs)).map V.str))) p := hp4.same (same_new nL)
        refine ⟨.ref D, rfl, .inl ⟨rfl, _, .inl (.inl L5)⟩, .str x, rfl, .ref D, rfl, D, xs.map V.str, rfl, .inl (.inl (.inl L5)), rfl, flats xs, _, rfl, ?_⟩
        show if inV (.str x) (xs.map V.str) = true then _ else _
        rw [inV_strs]
        have fin : ∀ y : Str, y ∉ xs → nameV (.str y) = true → ∃ (y3' y4' y5' : Option V) (xs' : List Str), ([some (.ref p), some (.int m), some (.ref D), some (.int (0 + (i : Int))), some (.str x), some (.ref L), none] : List (Option V)) = [some (.ref p), some (.int m), some (.ref D), y3', y4', y5', none] ∧
            (upd (upd H4 L (.lst (((letters.take ("abcdefghijklmnopqrstuvwxyz" : Str).cps.size).filter fun y => decide (y ∉ xs)).map V.str))) D (.lst (xs.map V.str ++ [.str y]))) D = some (.lst (xs'.map V.str)) ∧
            xs'.length = i + 1 ∧ xs'.Nodup ∧ (∀ x ∈ xs', nameV (.str x) = true) ∧ PotAt (upd (upd H4 L (.lst (((letters.take ("abcdefghijklmnopqrstuvwxyz" : Str).cps.size).filter fun y => decide (y ∉ xs)).map V.str))) D (.lst (xs.map V.str ++ [.str y]))) p ∧
            But p H (upd (upd H4 L (.lst (((letters.take ("abcdefghijklmnopqrstuvwxyz" : Str).cps.size).filter fun y => decide (y ∉ xs)).map V.str))) D (.lst (xs.map V.str ++ [.str y]))) := by
          intro y hy1 hy2
          refine ⟨_, _, _, xs ++ [y], rfl, ?_, ?_, ?_, ?_, ?_, ?_⟩
          · rw [upd_same, List.map_append]
            rfl
          · rw [List.length_append, e2]
            rfl
          · rw [List.nodup_append]
            refine ⟨e3, List.pairwise_singleton _ _, fun a ha b hb => ?_⟩
            rw [List.mem_singleton.mp hb]
            rintro rfl
            exact hy1 ha
          · intro z hz
            rcases List.mem_append.mp hz with z1 | z1
            · exact e4 z z1
            · rw [List.mem_singleton.mp z1]
              exact hy2
          · obtain ⟨r, g, e, h⟩ := p5
            exact ⟨r, g, by rw [upd_ne nDp]; exact e, h⟩
          · intro b o nb hb
            rw [upd_ne (ne_of_none hb nD)]
            exact same_new nL _ _ (b4 b o nb hb)
        have szD : (xs.map V.str).length < sizeLine := by
          rw [List.length_map]
          exact sz1 (by omega)
        by_cases hz : x ∈ xs
        · rw [decide_eq_true hz]
          have lf := filter_left xs letters_nodup
          rw [letters_len] at lf
          obtain ⟨y, r, hyr⟩ : ∃ y r, (letters.filter fun y => decide (y ∉ xs)) = y :: r := by
            cases hc : letters.filter fun y => decide (y ∉ xs) with
            | nil =>
              rw [hc] at lf
              have : ([] : List Str).length = 0 := rfl
              omega
            | cons y r => exact ⟨y, r, rfl⟩
          have hym : y ∈ letters ∧ decide (y ∉ xs) = true := List.mem_filter.mp (by rw [hyr]; exact List.mem_cons_self ..)
          have F5 : atI (((letters.take ("abcdefghijklmnopqrstuvwxyz" : Str).cps.size).filter fun y => decide (y ∉ xs)).map V.str) 0 = some (.str y) := by
            rw [e26, hyr]
            exact atI_nat (j := 0) rfl
          refine iteT ⟨.ref L, rfl, L, _, 0, .str y, rfl, rfl, .inl (.inl upd_same), F5, D, _, _, rfl, rfl, L5, szD, ?_⟩
          exact fin y (of_decide_eq_true hym.2) (letter_name y hym.1)
        · rw [decide_eq_false hz]
          refine iteF ⟨.str x, rfl, D, _, _, rfl, rfl, L5, szD, ?_⟩
          exact fin x hz hx
    · obtain ⟨y3, y4, y5, xs, rfl, e1, e2, e3, e4, e5, e6⟩ := hP
      exact ⟨.ref D, rfl, q _ D xs e5 e6 nD nDp.symm e1 (by omega) e3 e4⟩
end
end Lw
namespace Lw
open PySem PySem.Spec PyProof.Rows L2 Kv
section
variable {P : Program} {w : World} {K : PySem.W.Frag} {mg : Str → Option Value} {base : Heap}
def spKinds : Sp := fun vs H Q _ => ∃ (p : Addr) (most : Nat), vs = [.ref p, .int most] ∧ PotAt H p ∧ 1 ≤ most ∧ most ≤ 20 ∧
  ∀ H' R (us : List V) (rows : List Row2), PotAt H' p → But p H H' → H R = none → R ≠ p → H' R = some (.lst us) → RowsAre H' us rows → Valid rows →
    1 ≤ rows.length → rows.length ≤ most → Q (.ref R) H'
theorem ok_kinds {f fD fN fM : Addr} {fd fdD fdN fdM : FuncData} {k : Nat} (F : Fun K "_law_kinds" "_law_kinds" sKinds f fd)
    (FD : Fun K "_law_draw" "_law_draw" sDraw fD fdD) (bD : Binds K fdD ["_law_pot_here", "_law_many"] []) (gD : mg "_law_draw" = some (.ref fD))
    (FN : Fun K "_law_names" "_law_names" sNames fN fdN) (bN : Binds K fdN ["_law_pot_here", "_law_many"] []) (gN : mg "_law_names" = some (.ref fN))
    (FM : Fun K "_law_mixed" "_law_mixed" sMixed fM fdM) (bM : Binds K fdM ["_law_pot_here", "_law_some"] []) (gM : mg "_law_mixed" = some (.ref fM))
    (GD : FnOk P w K mg base CX0 (k + 1) fD fdD ["_law_pot_here", "_law_many"] spDraw)
    (GN : FnOk P w K mg base CX0 (k + 3) fN fdN ["_law_pot_here", "_law_many"] spNames)
    (GM : FnOk P w K mg base CX0 (k + 2) fM fdM ["_law_pot_here", "_law_some"] (spMixed K)) (mT : mg "tuple" = none) :
    FnOk P w K mg base CX0 (k + 4) f fd ["_law_pot_here", "_law_most"] spKinds := by
  refine F.ok scKinds (fun vs H Q E h => ?_) (fun cdv A outer s H vs Q E hr h => ?_)
  · obtain ⟨a, m, rfl, _⟩ := h
    rfl
  · obtain ⟨p, most, rfl, hp, m1, m2, q⟩ := h
    have hrD := hr.mono (by omega : k + 1 ≤ k + 3)
    have hrM := hr.mono (by omega : k + 2 ≤ k + 3)
    refine ⟨_, pss_cons (ps_set (i := 2) scKinds.nd rfl (.inl rfl) (pe_lst pa_nil))
      (pss_cons (ps_for PassesOwn.never rfl (pi_list (pe_call GN hr (by rfl) gN FN.kp bN .nil pass0 (pa_cons (pv 0) (pa_cons (pe_op op_add pe_int
            (pe_call GD hrD (by rfl) gD FD.kp bD .nil pass0 (pa_cons (pv 0) (pa_cons (pv 1) pa_nil)))) pa_nil)))) (pg_name (i := 3) scKinds.nd rfl (.inl rfl))
        (pss_cons (ps_set (i := 4) scKinds.nd rfl (.inl rfl) (pe_ix ix_list (pe_lst (pa_cons pe_int (pa_cons pe_int (pa_cons pe_int (pa_cons pe_int (pa_cons pe_int (pa_cons pe_int pa_nil)))))))
            (pe_call GD hrD (by rfl) gD FD.kp bD .nil pass0 (pa_cons (pv 0) (pa_cons pe_int pa_nil))) (fun _ _ => rfl)))
        (pss_one (ps_expr (pe_bm PySem.F.plainAttrs_list PySem.F.slot_list_append PySem.F.type_list_append mt_append (pv 2)
          (pa_cons (pe_tup (pa_cons (pv 3) (pa_cons (pe_callTy call_tuple_of (by rfl) mT (by decide +kernel) (pa_cons (pe_slice sl_list
            (pe_call GM hrM (by rfl) gM FM.kp bM .nil pass0 (pa_cons (pv 0) (pa_cons
              (pe_lc (own := [("_law_row", 5)]) (g := gName 5) (tt := tYes) (te := tOp (rIxT K) (tVar 5) (tC (.int 0))) rfl scKinds.nd (pi_list (pv 2))
                (blkOk_by (own := [("_law_row", 5)]) (N := NKinds) (sc := defScope sKinds) (by decide +kernel))
                (fun _ _ _ _ _ => pg_name (i := 5) scKinds.nd rfl (Or.inl rfl)) (fun _ _ _ _ _ => pts_nil)
                (fun _ _ _ _ _ => pe_ix ix_tup (pv 5) pe_int (fun _ _ => rfl))) pa_nil)))
            po_none (po_some (pv 4))) pa_nil)) pa_nil))) pa_nil))))))
      (pss_one (ps_ret (pv 2)))), ?_⟩
    refine ⟨(by decide : 0 ≤ sizeLine), fun R nR => ?_⟩
    have nRp : p ≠ R := by
      obtain ⟨_, _, e, _⟩ := hp
      exact ne_of_none e nR
    have hpR := hp.same (same_new (o := .lst []) nR)
    refine ⟨.ref p, rfl, .ref p, rfl, .int most, rfl, p, most, rfl, hpR, by omega, by omega, fun H1 d a1 a2 hp1 s1 => ?_⟩
    refine ⟨_, _, rfl, rfl, p, (1 + d).toNat, ?_, hp1, by omega, fun H2 N xs hp2 s2 nN neN eN lN ndN nmN => ?_⟩
    · show [V.ref p, V.int (1 + d)] = _
      rw [Int.toNat_of_nonneg (by omega)]
    have R1 := s1 _ _ nRp.symm upd_same
    have nNR : R ≠ N := ne_of_none R1 nN
    have R2 := s2 _ _ nRp.symm R1
    have b2 : But p H H2 := (But.of_same (same_new nR)).trans (s1.trans s2)
    refine ⟨N, rfl, ⟨_, .inl (.inl eN)⟩, ?_⟩
    refine for_list (xs := xs.map V.str) (fun i σ H3 => ∃ (y3 y4 : Option V) (us : List V) (rows : List Row2), σ = [some (.ref p), some (.int most), some (.ref R), y3, y4, none] ∧ H3 R = some (.lst us) ∧
        RowsAre H3 us rows ∧ Valid rows ∧ fsts rows = xs.take i ∧ H3 N = some (.lst (xs.map V.str)) ∧ PotAt H3 p ∧ But p H H3)
      ⟨none, none, [], [], rfl, R2, .nil, valid_nil, rfl, eN, hp2, b2⟩ (fun i σ H3 _ hP => ?_) (fun i v σ H3 hv hP => ?_) (fun σ H3 hP => ?_)
    · obtain ⟨_, _, _, _, _, _, _, _, _, e, _⟩ := hP
      exact .inl (.inl e)
    · obtain ⟨y3, y4, us, rows, rfl, eR, era, eva, efs, eN3, hp3, b3⟩ := hP
      rw [List.getElem?_map] at hv
      obtain ⟨x, hx, rfl⟩ : ∃ x, xs[i]? = some x ∧ v = .str x := by
        cases hz : xs[i]? with
        | none =>
          rw [hz] at hv
          cases hv
        | some x =>
          rw [hz] at hv
          exact ⟨x, rfl, (Option.some.inj hv).symm⟩
      have hil : i < xs.length := (List.getElem?_eq_some_iff.mp hx).1
      have lr : rows.length = i := by
        have := congrArg List.length efs
        unfold fsts at this
        rw [List.length_map, List.length_take] at this
        omega
      refine ⟨(by decide : 6 ≤ sizeLine), fun l nl => ?_⟩
      have t1 := same_new (o := .lst [.int 0, .int 1, .int 1, .int 2, .int 2, .int 3]) nl
      have nlp : p ≠ l := by
        obtain ⟨_, _, e, _⟩ := hp3
        exact ne_of_none e nl
      refine ⟨.ref p, rfl, p, 6, rfl, hp3.same t1, by decide, by decide, fun H5 d5 c1 c2 hp5 s5 => ?_⟩
      have el := s5 _ _ nlp.symm upd_same
      obtain ⟨n, hn, n3⟩ : ∃ n : Nat, atI [V.int 0, V.int 1, V.int 1, V.int 2, V.int 2, V.int 3] d5 = some (.int n) ∧ n ≤ 3 := by
        have : d5 = 0 ∨ d5 = 1 ∨ d5 = 2 ∨ d5 = 3 ∨ d5 = 4 ∨ d5 = 5 := by omega
        rcases this with rfl | rfl | rfl | rfl | rfl | rfl
        · exact ⟨0, rfl, by decide⟩
        · exact ⟨1, rfl, by decide⟩
        · exact ⟨1, rfl, by decide⟩
        · exact ⟨2, rfl, by decide⟩
        · exact ⟨2, rfl, by decide⟩
        · exact ⟨3, rfl, by decide⟩
      have R5 : H5 R = some (.lst us) := s5 _ _ nRp.symm (t1 _ _ eR)
      have N5 : H5 N = some (.lst (xs.map V.str)) := s5 _ _ neN (t1 _ _ eN3)
      have era5 : RowsAre H5 us rows := (era.same t1).but (hp3.same t1) s5
      have b5 : But p H H5 := (b3.new nl).trans s5
      refine ⟨l, _, d5, .int n, rfl, rfl, .inl (.inl el), hn, ?_⟩
      refine ⟨.ref R, rfl, .inl ⟨rfl, _, .inl (.inl R5)⟩, .str x, rfl, .ref p, rfl, .ref R, rfl, R, rfl, ⟨_, .inl (.inl R5)⟩, fun D nD => ?_⟩
      have nDR : R ≠ D := ne_of_none R5 nD
      refine lc_list (xs := us) (fun j H6 => H6 = upd H5 D (.lst (((fsts rows).take j).map V.str))) rfl (fun j H6 _ hP => ?_) (fun j v H6 hv hP => ?_) (fun H6 hP => ?_)
      · subst hP
        exact .inl (.inl (by rw [upd_ne nDR]; exact R5))
      · subst hP
        obtain ⟨r, hr1, t, sA, rfl, et, es⟩ := era5.get hv
        have jl : j < us.length := (List.getElem?_eq_some_iff.mp hv).1
        refine ⟨rfl, .ref t, rfl, t, [.str r.1, .ref sA], 0, .str r.1, rfl, rfl, .inl (.inl (by rw [upd_ne (ne_of_none et nD)]; exact et)), atI_nat (j := 0) rfl, _, upd_same, ?_, ?_⟩
        · rw [List.length_map, List.length_take]
          have := era5.length
          exact sz1 (by
            have : xs.length ≤ 25 := by omega
            omega)
        · have hf : (fsts rows)[j]? = some r.1 := by
            unfold fsts
            rw [List.getElem?_map, hr1]
            rfl
          rw [upd_upd, List.take_add_one, hf, List.map_append]
          rfl
      · subst hP
        have ln := era5.length
        have etk : (fsts rows).take us.length = fsts rows := List.take_of_length_le (by
          unfold fsts
          rw [List.length_map]
          omega)
        rw [etk]
        have t6 := same_new (o := .lst ((fsts rows).map V.str)) nD
        refine ⟨p, D, (fsts rows).map V.str, rfl, hp5.same t6, .inl (.inl upd_same), by
          unfold fsts
          rw [List.length_map, List.length_map]
          omega, fun H7 D2 ys hp7 s7 nD2 neD2 eD2 pm => ?_⟩
        obtain ⟨ms, rfl, pm2⟩ := perm_strs pm
        refine ⟨.int n, rfl, n, rfl, D2, _, rfl, .inl (.inl eD2), fun c nc => ?_⟩
        rw [cut_take] at *
        refine ⟨c, _, rfl, .inl ⟨.inl (.inl upd_same), fun u nu => ?_⟩⟩
        refine ⟨(by decide : 2 ≤ sizeLine), fun t nt => ?_⟩
        have z1 := same_new (o := .lst ((ms.map V.str).take n)) nc
        have z2 := same_new (o := .tup ((ms.map V.str).take n)) nu
        have z3 := same_new (o := .tup [.str x, .ref u]) nt
        have R7 : H7 R = some (.lst us) := s7 _ _ nRp.symm (t6 _ _ R5)
        have R8 := z3 _ _ (z2 _ _ (z1 _ _ R7))
        have N8 := z3 _ _ (z2 _ _ (z1 _ _ (s7 _ _ neN (t6 _ _ N5))))
        have U8 := z3 _ _ (upd_same (H := upd H7 c (.lst ((ms.map V.str).take n))) (a := u) (o := .tup ((ms.map V.str).take n)))
        have era7 : RowsAre H7 us rows := (era5.same t6).but (hp5.same t6) s7
        refine ⟨R, us, .ref t, rfl, rfl, R8, sz1 (by omega), ?_⟩
        have hxr : x ∉ fsts rows := by
          rw [efs]
          intro hz
          obtain ⟨j, hj, e⟩ := List.getElem_of_mem hz
          rw [List.getElem_take] at e
          have hj2 : j < i := by
            rw [List.length_take] at hj
            omega
          have hxi : xs[i] = x := (List.getElem?_eq_some_iff.mp hx).2
          exact (List.pairwise_iff_getElem.mp ndN j i (by omega) hil hj2) (by rw [e, hxi])
        have hnd : (fsts rows).Nodup := by
          rw [efs]
          exact ndN.sublist (List.take_sublist _ _)
        refine ⟨_, _, us ++ [.ref t], rows ++ [(x, ms.take n)], rfl, upd_same, ?_, ?_, ?_, ?_, ?_, ?_⟩
        · refine RowsAre.snoc ((((era7.same z1).same z2).same z3).wr R8) (RowAt.wr R8 ⟨t, u, rfl, upd_same, ?_⟩)
          rw [List.map_take]
          exact U8
        · refine eva.snoc (nmN x (List.mem_of_getElem? hx)) hxr ((pm2.nodup_iff.mpr hnd).sublist (List.take_sublist _ _)) ?_
          intro z hz
          exact pm2.mem_iff.mp (List.mem_of_mem_take hz)
        · rw [fsts_snoc, efs, List.take_add_one, hx]
          rfl
        · rw [upd_ne nNR.symm]
          exact N8
        · obtain ⟨r, g, e, h⟩ := hp7
          exact ⟨r, g, by rw [upd_ne nRp]; exact z3 _ _ (z2 _ _ (z1 _ _ e)), h⟩
        · intro b o nb hb
          rw [upd_ne (ne_of_none hb nR)]
          exact z3 _ _ (z2 _ _ (z1 _ _ (s7 _ _ nb (t6 _ _ (b5 b o nb hb)))))
    · obtain ⟨y3, y4, us, rows, rfl, eR, era, eva, efs, eN3, hp3, b3⟩ := hP
      have lr : rows.length = xs.length := by
        have := congrArg List.length efs
        unfold fsts at this
        rw [List.length_map, List.length_take, List.length_map] at this
        omega
      exact ⟨.ref R, rfl, q _ R us rows hp3 b3 nR nRp.symm eR era eva (by omega) (by omega)⟩
end
end Lw
/-! Rows of any kind, judged. -/
namespace Lw
open PySem PySem.Spec PyProof.Rows L2 Kv
def inD (ns : List Str) : PyData → Bool
  | .str x => decide (x ∈ ns)
  | _ => false
def strOf : PyData → Str
  | .str x => x
  | _ => Str.empty
def areD (ns : List Str) : PyData → Bool
  | .tuple ds => ds.all (inD ns) && decide ((ds.map strOf).Nodup)
  | _ => false
def probL (ns : List Str) : List PyData → Option Str
  | [a, b] => if wordD a = false then some ("name" : Str) else if inD ns a = true then some ("duplicate" : Str) else if areD ns b = false then some ("superclasses" : Str) else none
  | _ => some ("class" : Str)
def probD (ns : List Str) : PyData → Option Str
  | .tuple ds => probL ns ds
  | _ => some ("class" : Str)
def optV : Option Str → V
  | some x => .str x
  | none => .non
theorem strs_of {K : PySem.W.Frag} {nd : Bool} {H : Hp} {ns : List Str} : ∀ {xs : List V} {ds : List PyData}, ShAll K nd H xs ds → ds.all (inD ns) = true → xs = (ds.map strOf).map V.str
  | _, _, .nil, _ => rfl
  | _, _, .cons a b, h => by
    rw [List.all_cons, Bool.and_eq_true] at h
    have ih := strs_of b h.2
    rw [List.map_cons, List.map_cons, ← ih]
    cases a with
    | str x => rfl
    | _ => cases h.1
abbrev NAre : List Str := ["value", "known", "name"]
theorem scAre : FnScope NAre ["value", "known"] (defScope sAre) :=
  ⟨rfl, rfl, rfl, by decide +kernel, rfl, by decide +kernel, by decide +kernel⟩
theorem scProb : FnScope ["row", "known", "name", "superclasses"] ["row", "known"] (defScope sProb) :=
  ⟨rfl, rfl, rfl, by decide +kernel, rfl, by decide +kernel, by decide +kernel⟩
section
variable {P : Program} {w : World} {K : PySem.W.Frag} {mg : Str → Option Value} {base : Heap}
def spAre (K : PySem.W.Frag) : Sp := fun vs H Q _ => ∃ (v : V) (nd : Bool) (dt : PyData) (d : Addr) (ns : List Str) (kvs : List (Key × V)), vs = [v, .ref d] ∧ Sh K nd H v dt ∧ Fit 900 20 dt ∧ H d = some (.dK kvs) ∧
  (∀ x : Str, (valV kvs (Sum.inr x : Key)).isSome = decide (x ∈ ns)) ∧ ∀ H', Same H H' → Q (.bl (areD ns dt)) H'
theorem ok_are {f : Addr} {fd : FuncData} {k : Nat} (F : Fun K "are_superclasses" "are_superclasses" sAre f fd)
    (mi : mg "isinstance" = none) (mT : mg "tuple" = none) (ms : mg "str" = none) (ma : mg "all" = none) (ml : mg "len" = none) (mS : mg "set" = none) :
    FnOk P w K mg base CX0 (k + 1) f fd ["value", "known"] (spAre K) := by
  refine F.ok scAre (fun vs H Q E h => ?_) (fun cdv A outer s H vs Q E hr h => ?_)
  · obtain ⟨v, nd, dt, d, ns, kvs, rfl, _⟩ := h
    rfl
  · obtain ⟨v, nd, dt, d, ns, kvs, rfl, sh, hf, hd, hk, q⟩ := h
    have hu := hu_of hr
    refine ⟨_, pss_cons (ps_if (pt_not (pt_val (pe_callB call_isi (by rfl) mi (by decide +kernel) (pa_cons (pv 0)
          (pa_cons (pe_bltn (v := .ty "tuple") (by rfl) mT (by decide +kernel : bootBuiltins "tuple" = some (.type "tuple")) rfl) pa_nil))))) (pss_one (ps_ret pe_bl)) pss_nil)
      (pss_cons (ps_if (pt_not (pt_val (pe_callB (cr_all rfl) (by rfl) ma (by decide +kernel) (pa_cons
          (pe_lc (own := [("name", 2)]) (g := gName 2) (tt := tYes) (te := tAndV (tCB (rIsi K) (tCons (tVar 2) (tCons (tC (.ty "str")) tNil))) (tDIn (tVar 2) (tVar 1))) rfl scAre.nd (pi_tup (pv 0))
            (blkOk_by (own := [("name", 2)]) (N := NAre) (sc := defScope sAre) (by decide +kernel))
            (fun _ _ _ _ _ => pg_name (i := 2) scAre.nd rfl (Or.inl rfl)) (fun _ _ _ _ _ => pts_nil)
            (fun _ _ _ _ _ => pe_and (pe_callB call_isi (by rfl) mi (by decide +kernel) (pa_cons (pv 2)
              (pa_cons (pe_bltn (v := .ty "str") (by rfl) ms (by decide +kernel : bootBuiltins "str" = some (.type "str")) rfl) pa_nil)))
              (pe_one (pe_cmp (pc_din hu (pv 2) (pv 1)) rfl)))) pa_nil)))) (pss_one (ps_ret pe_bl)) pss_nil)
      (pss_one (ps_ret (pe_cmpR op_eq (pe_lenTexts rfl (by rfl) ml (by rfl) mS (pv 0)) (pe_callB call_len_seq (by rfl) ml PySem.boot_len (pa_cons (pv 0) pa_nil)) (nomark _))))), ?_⟩
    refine ⟨v, rfl, v, .ty "tuple", _, _, isTup dt, rfl, .ty "tuple", sh.tyIs, kit_ty (kit_tup dt), _, rfl, ?_⟩
    cases sh with
    | non => exact iteT (q H (Same.refl _))
    | bl b => exact iteT (q H (Same.refl _))
    | int i => exact iteT (q H (Same.refl _))
    | str y => exact iteT (q H (Same.refl _))
    | lst h1 h2 h3 => exact iteT (q H (Same.refl _))
    | dict h0 h1 h2 h3 => exact iteT (q H (Same.refl _))
    | @tup a xs ds h1 h2 =>
      have hl := h2.length
      have dl : ds.length ≤ 900 := fit_len (fit_tup hf)
      have pe : areD ns (.tuple ds) = (ds.all (inD ns) && decide ((ds.map strOf).Nodup)) := rfl
      rw [pe] at q
      refine iteF ?_
      refine ⟨.ref a, rfl, a, rfl, ⟨_, h1⟩, fun D nD => ?_⟩
      have nDd : d ≠ D := ne_of_none hd nD
      refine lc_tup (xs := xs) (fun i H3 => H3 = upd H D (.lst ((ds.take i).map fun x => .bl (inD ns x)))) rfl (fun i H3 _ hP => ?_) (fun i v H3 hv hP => ?_) (fun H3 hP => ?_)
      · subst hP
        exact sqT_same h1 (same_new nD)
      · subst hP
        obtain ⟨di, hdi, shi⟩ := shGet h2 hv
        have sD := same_new (o := .lst ((ds.take i).map fun x => V.bl (inD ns x))) nD
        have shi2 := shi.same sD
        have nx : ∀ bb : Bool, bb = inD ns di → ∃ acc, (upd H D (.lst ((ds.take i).map fun x => V.bl (inD ns x)))) D = some (.lst acc) ∧ acc.length < sizeLine ∧
            upd (upd H D (.lst ((ds.take i).map fun x => V.bl (inD ns x)))) D (.lst (acc ++ [.bl bb])) = upd H D (.lst ((ds.take (i + 1)).map fun x => .bl (inD ns x))) := by
          intro bb hbb
          refine ⟨_, upd_same, ?_, ?_⟩
          · rw [List.length_map, List.length_take]
            exact sz1 (by omega)
          · rw [upd_upd, List.take_add_one, hdi, List.map_append, hbb]
            rfl
        refine ⟨rfl, v, rfl, v, .ty "str", _, _, isStr di, rfl, .ty "str", shi2.tyIs, kit_ty (kit_str di), _, rfl, ?_⟩
        cases shi with
        | str y =>
          refine iteT ⟨.str y, rfl, .ref d, rfl, d, _, rfl, DGet.k (k := Sum.inr y) (sD _ _ hd), ?_⟩
          exact nx _ (hk y)
        | non => exact iteF (nx false rfl)
        | bl b => exact iteF (nx false rfl)
        | int j => exact iteF (nx false rfl)
        | lst k1 k2 k3 => exact iteF (nx false rfl)
        | tup k1 k2 => exact iteF (nx false rfl)
        | dict k0 k1 k2 k3 => exact iteF (nx false rfl)
      · subst hP
        have tk : ds.take xs.length = ds := List.take_of_length_le (by omega)
        rw [tk]
        have sD := same_new (o := .lst (ds.map fun x => V.bl (inD ns x))) nD
        refine ⟨D, ds.map (inD ns), rfl, .inl (.inl (by rw [upd_same, List.map_map]; rfl)), _, rfl, ?_⟩
        rw [List.all_map]
        cases hz : ds.all (inD ns) with
        | false =>
          rw [show ds.all (id ∘ inD ns) = ds.all (inD ns) from rfl, hz]
          rw [hz, Bool.false_and] at q
          exact iteT (q _ sD)
        | true =>
          rw [show ds.all (id ∘ inD ns) = ds.all (inD ns) from rfl, hz]
          rw [hz, Bool.true_and] at q
          refine iteF ?_
          have ex := strs_of h2 hz
          have h1' := sqT_same h1 sD
          rw [ex] at h1'
          have ln : (ds.map strOf).length = ds.length := List.length_map _
          refine ⟨.ref a, rfl, a, ds.map strOf, rfl, h1', by omega, .ref a, rfl, a, _, rfl, .inr h1', rfl, ?_⟩
          have := q _ sD
          rw [← met_iff] at this
          have lm : ((ds.map strOf).map V.str).length = (ds.map strOf).length := List.length_map _
          rw [lm]
          have e : decide (V.int (met (ds.map strOf) (ds.map strOf).length : Nat) = V.int ((ds.map strOf).length : Nat)) = decide (met (ds.map strOf) (ds.map strOf).length = (ds.map strOf).length) := by
            by_cases e : met (ds.map strOf) (ds.map strOf).length = (ds.map strOf).length
            · rw [decide_eq_true e, e]
              exact decide_eq_true rfl
            · rw [decide_eq_false e, decide_eq_false (fun z => e (by
                have := V.int.inj z
                omega))]
          rw [e]
          exact this
def spProb (K : PySem.W.Frag) : Sp := fun vs H Q _ => ∃ (v : V) (nd : Bool) (dt : PyData) (d : Addr) (ns : List Str) (kvs : List (Key × V)), vs = [v, .ref d] ∧ Sh K nd H v dt ∧ Fit 900 20 dt ∧ H d = some (.dK kvs) ∧
  (∀ x : Str, (valV kvs (Sum.inr x : Key)).isSome = decide (x ∈ ns)) ∧ ∀ H', Same H H' → Q (optV (probD ns dt)) H'
theorem ok_prob {f fN fA : Addr} {fd fdN fdA : FuncData} {k : Nat} (F : Fun K "row_problem" "row_problem" sProb f fd)
    (FN : Fun K "is_name" "is_name" sIsName fN fdN) (bN : Binds K fdN ["value"] []) (gN : mg "is_name" = some (.ref fN))
    (FA : Fun K "are_superclasses" "are_superclasses" sAre fA fdA) (bA : Binds K fdA ["value", "known"] []) (gA : mg "are_superclasses" = some (.ref fA))
    (GN : FnOk P w K mg base CX0 (k + 1) fN fdN ["value"] (spName K)) (GA : FnOk P w K mg base CX0 (k + 1) fA fdA ["value", "known"] (spAre K))
    (mi : mg "isinstance" = none) (mT : mg "tuple" = none) (ml : mg "len" = none) :
    FnOk P w K mg base CX0 (k + 2) f fd ["row", "known"] (spProb K) := by
  refine F.ok scProb (fun vs H Q E h => ?_) (fun cdv A outer s H vs Q E hr h => ?_)
  · obtain ⟨v, nd, dt, d, ns, kvs, rfl, _⟩ := h
    rfl
  · obtain ⟨v, nd, dt, d, ns, kvs, rfl, sh, hf, hd, hk, q⟩ := h
    have hu := hu_of hr
    refine ⟨_, pss_cons (ps_if (PW.pt (pw_or (pt_not (pt_val (pe_callB call_isi (by rfl) mi (by decide +kernel) (pa_cons (pv 0)
          (pa_cons (pe_bltn (v := .ty "tuple") (by rfl) mT (by decide +kernel : bootBuiltins "tuple" = some (.type "tuple")) rfl) pa_nil)))))
          (pw_or1 (pt_cmpR op_ne (pe_callB call_len_seq (by rfl) ml PySem.boot_len (pa_cons (pv 0) pa_nil)) pe_int (nomark _))))) (pss_one (ps_ret pe_str)) pss_nil)
      (pss_cons (ps_asg (pv 0) (pg_tup (by rfl) (pgs_cons (pg_name (i := 2) scProb.nd rfl (.inl rfl)) (pgs_cons (pg_name (i := 3) scProb.nd rfl (.inl rfl)) pgs_nil))))
      (pss_cons (ps_if (pt_not (pt_val (pe_call GN hr (by rfl) gN FN.kp bN .nil pass0 (pa_cons (pv 2) pa_nil)))) (pss_one (ps_ret pe_str)) pss_nil)
      (pss_cons (ps_if (pt_cmp (pc_din hu (pv 2) (pv 1))) (pss_one (ps_ret pe_str)) pss_nil)
      (pss_cons (ps_if (pt_not (pt_val (pe_call GA hr (by rfl) gA FA.kp bA .nil pass0 (pa_cons (pv 3) (pa_cons (pv 1) pa_nil))))) (pss_one (ps_ret pe_str)) pss_nil)
      (pss_one (ps_ret pe_non)))))), ?_⟩
    refine ⟨v, rfl, v, .ty "tuple", _, _, isTup dt, rfl, .ty "tuple", sh.tyIs, kit_ty (kit_tup dt), _, rfl, ?_⟩
    cases sh with
    | non => exact iteT (q H (Same.refl _))
    | bl b => exact iteT (q H (Same.refl _))
    | int i => exact iteT (q H (Same.refl _))
    | str y => exact iteT (q H (Same.refl _))
    | lst h1 h2 h3 => exact iteT (q H (Same.refl _))
    | dict h0 h1 h2 h3 => exact iteT (q H (Same.refl _))
    | @tup a xs ds h1 h2 =>
      have hl := h2.length
      have pe : probD ns (.tuple ds) = probL ns ds := rfl
      rw [pe] at q
      refine iteF ?_
      refine ⟨.ref a, rfl, a, xs, rfl, .inr h1, rfl, _, rfl, ?_⟩
      by_cases e2 : ds.length = 2
      · have e3 : decide (V.int ((xs.length : Nat) : Int) = V.int 2) = true := by
          rw [decide_eq_true_eq, hl, e2]
          rfl
        rw [e3]
        refine iteF ?_
        obtain ⟨x0, x1, d0, d1, rfl, rfl, sh0, sh1⟩ : ∃ x0 x1 d0 d1, xs = [x0, x1] ∧ ds = [d0, d1] ∧ Sh K nd H x0 d0 ∧ Sh K nd H x1 d1 := by
          cases h2 with
          | nil => exact absurd e2 (by simp)
          | cons a1 t1 =>
            cases t1 with
            | nil => exact absurd e2 (by simp)
            | cons a2 t2 =>
              cases t2 with
              | nil => exact ⟨_, _, _, _, rfl, rfl, a1, a2⟩
              | cons _ _ => exact absurd e2 (by simp)
        have f0 : Fit 900 20 d0 := fit_all (i := 0) (fit_tup hf) rfl
        have f1 : Fit 900 20 d1 := fit_all (i := 1) (fit_tup hf) rfl
        have pl : probL ns [d0, d1] = (if wordD d0 = false then some ("name" : Str) else if inD ns d0 = true then some ("duplicate" : Str) else if areD ns d1 = false then some ("superclasses" : Str) else none) := rfl
        rw [pl] at q
        refine ⟨.ref a, rfl, a, _, rfl, h1, rfl, _, _, rfl, _, _, rfl, rfl, ?_⟩
        refine ⟨x0, rfl, x0, nd, d0, rfl, sh0, fit_str sh0 f0, fun H1 s1 => ⟨_, rfl, ?_⟩⟩
        rw [word_name sh0]
        cases c0 : wordD d0 with
        | false =>
          rw [c0, if_pos rfl] at q
          exact iteT (q _ s1)
        | true =>
          rw [c0, if_neg (by decide)] at q
          refine iteF ?_
          cases sh0 with
          | str n =>
            refine ⟨.str n, rfl, .ref d, rfl, d, _, rfl, DGet.k (k := Sum.inr n) (s1 _ _ hd), _, rfl, ?_⟩
            have hn := hk n
            have ei : inD ns (.str n) = decide (n ∈ ns) := rfl
            rw [ei] at q
            cases c1 : valV kvs (Sum.inr n : Key) with
            | some z =>
              rw [c1] at hn
              have hn2 : decide (n ∈ ns) = true := hn.symm
              rw [hn2, if_pos rfl] at q
              exact iteT (q _ s1)
            | none =>
              rw [c1] at hn
              have hn2 : decide (n ∈ ns) = false := hn.symm
              rw [hn2, if_neg (by decide)] at q
              refine iteF ?_
              refine ⟨x1, rfl, .ref d, rfl, x1, nd, d1, d, ns, kvs, rfl, sh1.same s1, f1, s1 _ _ hd, hk, fun H2 s2 => ⟨_, rfl, ?_⟩⟩
              cases c2 : areD ns d1 with
              | false =>
                rw [c2, if_pos rfl] at q
                exact iteT (q _ (s1.trans s2))
              | true =>
                rw [c2, if_neg (by decide)] at q
                exact iteF (q _ (s1.trans s2))
          | _ => cases c0
      · have e3 : decide (V.int ((xs.length : Nat) : Int) = V.int 2) = false := by
          rw [decide_eq_false_iff_not, hl]
          intro z
          injection z with z
          omega
        rw [e3]
        have pl : probL ns ds = some ("class" : Str) := by
          match ds, e2 with
          | [], _ => rfl
          | [_], _ => rfl
          | _ :: _ :: _ :: _, _ => rfl
        rw [pl] at q
        exact iteT (q _ (Same.refl _))
end
end Lw
/-! The errors' making. -/
namespace Lw
open PySem PySem.Spec PyProof.Rows L2 Kv
theorem scME : FnScope ["self", "message"] ["self", "message"] (defScope i_MethodsError) :=
  ⟨rfl, rfl, rfl, by decide +kernel, rfl, by decide +kernel, by decide +kernel⟩
theorem scIH : FnScope ["self", "problem", "position"] ["self", "problem", "position"] (defScope i_InvalidHierarchy) :=
  ⟨rfl, rfl, rfl, by decide +kernel, rfl, by decide +kernel, by decide +kernel⟩
theorem str_app_len (x y : Str) : (x ++ y).length = x.length + y.length := by
  have e : (x ++ y).cps.toList = x.cps.toList ++ y.cps.toList := TL.tl_append x y
  rw [Kv.len_list, e, List.length_append, ← Kv.len_list, ← Kv.len_list]
section
variable {P : Program} {w : World} {K : PySem.W.Frag} {mg : Str → Option Value} {base : Heap}
def spME (K : PySem.W.Frag) : Sp := fun vs H Q _ => ∃ (a C : Addr) (v : V), vs = [.ref a, v] ∧ OexC K C ∧ H a = some (exo a C none) ∧ Q .non H
theorem ok_me {f : Addr} {fd : FuncData} {k : Nat} (F : Fun K "__init__" "MethodsError.__init__" i_MethodsError f fd)
    (mV : mg "ValueError" = none) (vV : PySem.W.findCls K (.type "ValueError") (.type "type") "__init__" = some (.val (.builtin "ValueError.__init__"))) :
    FnOk P w K mg base CX0 (k + 1) f fd ["self", "message"] (spME K) := by
  refine F.ok scME (fun vs H Q E h => ?_) (fun cdv A outer s H vs Q E hr h => ?_)
  · obtain ⟨a, C, v, rfl, _⟩ := h
    rfl
  · obtain ⟨a, C, v, rfl, hC, ha, q⟩ := h
    refine ⟨_, pss_one (ps_expr (pe_veinit (by rfl) mV vV (pa_cons (pv 0) (pa_cons (pv 1) pa_nil)))), ?_⟩
    exact ⟨.ref a, rfl, v, rfl, a, C, [v], rfl, (show 1 ≤ 1000 from by decide), hC, ha, q⟩
/-- where the error's fields stand -/
def ihF (p : Str) (i : Int) : List (Str × V) := [("position", .int i), ("problem", .str p)]
def spIH (K : PySem.W.Frag) (C : Addr) : Sp := fun vs H Q _ => ∃ (a : Addr) (p : Str) (i : Int), vs = [.ref a, .str p, .int i] ∧ p.length ≤ 100 ∧ 0 ≤ i ∧ i.natAbs ≤ 10 ^ 60 ∧ H a = some (exo a C none) ∧
  ∀ d, H d = none → d ≠ a → Q .non (upd (upd (upd H d (exd d [("problem", .str p)])) a (exo a C (some d))) d (exd d (ihF p i)))
theorem ok_ih {f fM C CM : Addr} {fd fdM : FuncData} {k : Nat} {mc : Value} (F : Fun K "__init__" "InvalidHierarchy.__init__" i_InvalidHierarchy f fd) (T : OexC K C)
    (FM : Fun K "__init__" "MethodsError.__init__" i_MethodsError fM fdM) (bM : Binds K fdM ["self", "message"] []) (GM : FnOk P w K mg base CX0 (k + 1) fM fdM ["self", "message"] (spME K))
    (gM : mg "MethodsError" = some (.ref CM)) (rM : ClX.CRead K CM mc) (cM : PySem.W.findCls K (.ref CM) mc "__init__" = some (.val (.ref fM)))
    (n1 : PySem.W.findIn K (.ref C) "problem" = some none) (n2 : PySem.W.findIn K (.ref C) "position" = some none) :
    FnOk P w K mg base CX0 (k + 2) f fd ["self", "problem", "position"] (spIH K C) := by
  refine F.ok scIH (fun vs H Q E h => ?_) (fun cdv A outer s H vs Q E hr h => ?_)
  · obtain ⟨a, p, i, rfl, _⟩ := h
    rfl
  · obtain ⟨a, p, i, rfl, hp, hi0, hi, ha, q⟩ := h
    refine ⟨_, pss_cons (ps_expr (pe_clsFn (pe_glob (v := .ref CM) (by rfl) gM rfl) rM cM FM.kp GM hr bM .nil pass0 (pa_cons (pv 0) (pa_cons
          (pe_joined (.cons pe_str (.cons (pe_fmt (pv 1)) (.cons pe_str (.cons (pe_fmt (pv 2)) .nil))))) pa_nil))))
      (pss_cons (ps_ost (pv 0) (pv 1))
      (pss_one (ps_ost (pv 0) (pv 2)))), ?_⟩
    have hn := (num_sm hi0 hi).1
    have w1 : ("wrong classes: " : Str).length = 15 := by decide +kernel
    have w2 : (" at " : Str).length = 4 := by decide +kernel
    have we : (Str.empty).length = 0 := by decide +kernel
    refine ⟨rfl, .ref a, rfl, _, rfl, ?_, .str p, rfl, .inl ⟨p, rfl, szle (by omega), _, rfl, ?_, _, rfl, ?_, .int i, rfl, .inr ⟨i, rfl, Nat.lt_trans (log2_small hi) (by decide), _, rfl, ?_, a, C, _, rfl, T, ha, ?_⟩⟩⟩
    · refine szle ?_
      simp only [str_app_len]
      omega
    · refine szle ?_
      simp only [str_app_len]
      omega
    · refine szle ?_
      simp only [str_app_len]
      omega
    · refine szle ?_
      simp only [str_app_len]
      omega
    · refine ⟨.str p, rfl, .ref a, rfl, a, C, rfl, T, n1, .inl ⟨ha, fun d nd ne => ?_⟩⟩
      refine ⟨.int i, rfl, .ref a, rfl, a, C, rfl, T, n2, .inr ⟨d, [("problem", .str p)], upd_same, ?_, (show 1 ≤ 900 from by decide), ?_⟩⟩
      · rw [upd_ne ne, upd_same]
      · exact q d nd ne
end
end Lw
/-! A hierarchy made, or refused. -/
namespace Lw
open PySem PySem.Spec PyProof.Rows L2 Kv
theorem scAnc : FnScope ["name", "superclasses", "above", "found", "superclass", "ancestor"] ["name", "superclasses", "above"] (defScope sAnc) :=
  ⟨rfl, rfl, rfl, by decide +kernel, rfl, by decide +kernel, by decide +kernel⟩
theorem scInit : FnScope ["self", "classes", "position", "row", "problem", "name", "superclasses"] ["self", "classes"] (defScope m_init) :=
  ⟨rfl, rfl, rfl, by decide +kernel, rfl, by decide +kernel, by decide +kernel⟩
def rowOf : PyData → Row2
  | .tuple [.str n, .tuple es] => (n, es.map strOf)
  | _ => (Str.empty, [])
def goD (acc : List Row2) : List PyData → Except (Str × Int) (List Row2)
  | [] => .ok acc
  | d :: r => match probD (fsts acc) d with
    | some p => .error (p, (acc.length : Int))
    | none => goD (acc ++ [rowOf d]) r
def endD : Except (Str × Int) (List Row2) → Except (Str × Int) (List Row2)
  | .ok rows => if rows.length ≤ 20 then .ok rows else .error ("count", 20)
  | .error e => .error e
def initD : PyData → Except (Str × Int) (List Row2)
  | .list ds => endD (goD [] ds)
  | .tuple ds => endD (goD [] ds)
  | _ => .error ("list", 0)
def isSeq : PyData → Bool
  | .list _ => true
  | .tuple _ => true
  | _ => false
def itemsD : PyData → List PyData
  | .list ds => ds
  | .tuple ds => ds
  | _ => []
theorem prob_cases {ns : List Str} {d : PyData} {p : Str} (h : probD ns d = some p) : p = "class" ∨ p = "name" ∨ p = "duplicate" ∨ p = "superclasses" := by
  have key : ∀ ds : List PyData, probL ns ds = some p → p = "class" ∨ p = "name" ∨ p = "duplicate" ∨ p = "superclasses" := by
    intro ds hz
    match ds, hz with
    | [], hz => exact .inl (Option.some.inj hz).symm
    | [_], hz => exact .inl (Option.some.inj hz).symm
    | [a, b], hz =>
      have hz2 : (if wordD a = false then some ("name" : Str) else if inD ns a = true then some ("duplicate" : Str) else if areD ns b = false then some ("superclasses" : Str) else none) = some p := hz
      split at hz2
      · exact .inr (.inl (Option.some.inj hz2).symm)
      · split at hz2
        · exact .inr (.inr (.inl (Option.some.inj hz2).symm))
        · split at hz2
          · exact .inr (.inr (.inr (Option.some.inj hz2).symm))
          · cases hz2
    | _ :: _ :: _ :: _, hz => exact .inl (Option.some.inj hz).symm
  cases d with
  | tuple ds => exact key ds h
  | _ => exact .inl (Option.some.inj h).symm
theorem prob_len {ns : List Str} {d : PyData} {p : Str} (h : probD ns d = some p) : p.length ≤ 100 := by
  rcases prob_cases h with rfl | rfl | rfl | rfl <;> decide +kernel
theorem prob_none {ns : List Str} {d : PyData} (h : probD ns d = none) : ∃ n es, d = .tuple [.str n, .tuple es] ∧ nameV (.str n) = true ∧ n ∉ ns ∧ True ∧
    (es.all (inD ns) = true ∧ (es.map strOf).Nodup ∧ ∀ s ∈ es.map strOf, s ∈ ns) := by
  cases d with
  | tuple ds =>
    have hz : probL ns ds = none := h
    match ds, hz with
    | [a, b], hz =>
      have hz2 : (if wordD a = false then some ("name" : Str) else if inD ns a = true then some ("duplicate" : Str) else if areD ns b = false then some ("superclasses" : Str) else none) = none := hz
      split at hz2
      · cases hz2
      · rename_i c0
        split at hz2
        · cases hz2
        · rename_i c1
          split at hz2
          · cases hz2
          · rename_i c2
            cases a with
            | str n =>
              cases b with
              | tuple es =>
                have c3 : areD ns (.tuple es) = true := by
                  cases hq : areD ns (.tuple es) with
                  | true => rfl
                  | false => exact absurd hq c2
                have c4 : (es.all (inD ns) && decide ((es.map strOf).Nodup)) = true := c3
                rw [Bool.and_eq_true] at c4
                refine ⟨n, es, rfl, ?_, ?_, trivial, c4.1, of_decide_eq_true c4.2, ?_⟩
                · cases hq : nameV (.str n) with
                  | true => rfl
                  | false => exact absurd hq c0
                · intro z
                  exact c1 (decide_eq_true z)
                · intro s hs
                  obtain ⟨e, he, rfl⟩ := List.mem_map.mp hs
                  have := List.all_eq_true.mp c4.1 e he
                  cases e with
                  | str y => exact of_decide_eq_true this
                  | _ => cases this
              | _ => exact absurd rfl c2
            | _ => exact absurd rfl c0
  | _ => cases h
theorem strs_ofO {ok : Addr → Prop} {H : Hp} {ns : List Str} : ∀ {xs : List V} {ds : List PyData}, ShOs ok H xs ds → ds.all (inD ns) = true → xs = (ds.map strOf).map V.str
  | _, _, .nil, _ => rfl
  | _, _, .cons a b, h => by
    rw [List.all_cons, Bool.and_eq_true] at h
    have ih := strs_ofO b h.2
    rw [List.map_cons, List.map_cons, ← ih]
    cases a with
    | str x => rfl
    | _ => cases h.1
theorem shoGet {ok : Addr → Prop} {H : Hp} : ∀ {vs : List V} {ds : List PyData} {i : Nat} {v : V}, ShOs ok H vs ds → vs[i]? = some v → ∃ d, ds[i]? = some d ∧ ShO ok H v d
  | _, _, _, _, .nil, e => by simp at e
  | _, _, 0, _, .cons a _, e => by
    simp at e
    subst e
    exact ⟨_, rfl, a⟩
  | _, _, i + 1, v, .cons _ b, e => by
    obtain ⟨d, h1, h2⟩ := shoGet (i := i) (v := v) b (by simpa using e)
    exact ⟨d, by simpa using h1, h2⟩
/-- data stay where an instance is written -/
theorem ShO.butI {ok : Addr → Prop} {H H' : Hp} {x C dx : Addr} {fs : List (Str × V)} (hok : ∀ a, ok a → a ≠ x) (hx : H x = some (.ins C dx fs)) (b : But x H H') {v : V} {d : PyData} (h : ShO ok H v d) : ShO ok H' v d :=
  h.keep (fun _ _ o e => b _ _ (hok _ o) e) (fun _ _ e => b _ _ (ne_of e hx (by intro z; cases z)) e) (fun _ _ e => b _ _ (ne_of e hx (by intro z; cases z)) e)
theorem kit_seq {K : PySem.W.Frag} : ∀ d : PyData, PySem.W.kitAny K (.type (tyD d)) [.type "list", .type "tuple"] = some (isSeq d)
  | .none => kitAny_cons (kit_ty (by decide +kernel : kitB "NoneType" "list" = some false)) (fun _ => kitAny_cons (kit_ty (by decide +kernel : kitB "NoneType" "tuple" = some false)) (fun _ => rfl) (fun z => nomatch z)) (fun z => nomatch z)
  | .bool _ => kitAny_cons (kit_ty (by decide +kernel : kitB "bool" "list" = some false)) (fun _ => kitAny_cons (kit_ty (by decide +kernel : kitB "bool" "tuple" = some false)) (fun _ => rfl) (fun z => nomatch z)) (fun z => nomatch z)
  | .int _ => kitAny_cons (kit_ty (by decide +kernel : kitB "int" "list" = some false)) (fun _ => kitAny_cons (kit_ty (by decide +kernel : kitB "int" "tuple" = some false)) (fun _ => rfl) (fun z => nomatch z)) (fun z => nomatch z)
  | .str _ => kitAny_cons (kit_ty (by decide +kernel : kitB "str" "list" = some false)) (fun _ => kitAny_cons (kit_ty (by decide +kernel : kitB "str" "tuple" = some false)) (fun _ => rfl) (fun z => nomatch z)) (fun z => nomatch z)
  | .list _ => kitAny_cons (kit_ty (by decide +kernel : kitB "list" "list" = some true)) (fun z => nomatch z) (fun _ => rfl)
  | .tuple _ => kitAny_cons (kit_ty (by decide +kernel : kitB "tuple" "list" = some false)) (fun _ => kitAny_cons (kit_ty (by decide +kernel : kitB "tuple" "tuple" = some true)) (fun z => nomatch z) (fun _ => rfl)) (fun z => nomatch z)
  | .dict _ => kitAny_cons (kit_ty (by decide +kernel : kitB "dict" "list" = some false)) (fun _ => kitAny_cons (kit_ty (by decide +kernel : kitB "dict" "tuple" = some false)) (fun _ => rfl) (fun z => nomatch z)) (fun z => nomatch z)
section
variable {P : Program} {w : World} {K : PySem.W.Frag} {mg : Str → Option Value} {base : Heap}
def spAnc : Sp := fun vs H Q _ => ∃ (n : Str) (a u : Addr) (ss : List Str) (kvs : List (Key × V)) (tab : Tab), vs = [.str n, .ref a, .ref u] ∧ H a = some (.tup (ss.map V.str)) ∧
  H u = some (.dK kvs) ∧ Entries H kvs tab ∧ TabOk tab ∧ tab.length ≤ 100 ∧ (∀ x ∈ ss, x ∈ tabKeys tab) ∧
  ∀ H' F, Same H H' → H F = none → H' F = some (.dK (flag (ancOf tab n ss))) → Q (.ref F) H'
theorem ok_anc {f : Addr} {fd : FuncData} {k : Nat} (F : Fun K "ancestors_of" "ancestors_of" sAnc f fd) :
    FnOk P w K mg base CX0 (k + 1) f fd ["name", "superclasses", "above"] spAnc := by
  refine F.ok scAnc (fun vs H Q E h => ?_) (fun cdv A outer s H vs Q E hr h => ?_)
  · obtain ⟨n, a, u, ss, kvs, tab, rfl, _⟩ := h
    rfl
  · obtain ⟨n, a, u, ss, kvs, tab, rfl, ha, hU, he, hok, hlen, hss, q⟩ := h
    have hu := hu_of hr
    refine ⟨_, pss_cons (ps_set (i := 3) scAnc.nd rfl (.inl rfl) (pe_disp (pps_cons (pv 0) pe_bl pps_nil) (by rfl) (by rfl) (fun z => by cases z) (by decide)))
      (pss_cons (ps_for PassesOwn.never rfl (pi_tup (pv 1)) (pg_name (i := 4) scAnc.nd rfl (.inl rfl))
        (pss_one (ps_lock (ps_for PassesOwn.never rfl (pi_keys (pe_dget hu (pv 2) (pv 4) (fun _ _ => rfl))) (pg_name (i := 5) scAnc.nd rfl (.inl rfl))
          (pss_one (ps_dput hu (pv 3) (pv 5) pe_bl rfl))))))
      (pss_one (ps_ret (pv 3)))), ?_⟩
    refine fun D nD => ⟨.str n, rfl, upd_same, [(Sum.inr n, .bl true)], rfl, (by decide : 1 ≤ 15), ?_⟩
    have sD := same_new2 (o := .dK []) (u := .dK (flag [n])) nD
    have nDu : u ≠ D := ne_of_none hU nD
    refine ⟨.ref a, rfl, a, rfl, ⟨_, .inl (.inl (sD _ _ ha))⟩, ?_⟩
    refine for_tup (xs := ss.map V.str) (fun i σ H3 => ∃ y4 y5 : Option V, σ = [some (.str n), some (.ref a), some (.ref u), some (.ref D), y4, y5] ∧ H3 D = some (.dK (flag (ancAt tab n ss i))) ∧ Same H H3)
      ⟨none, none, rfl, upd_same, sD⟩ (fun i σ H3 _ hP => ?_) (fun i v σ H3 hv hP => ?_) (fun σ H3 hP => ?_)
    · obtain ⟨_, _, _, _, s3⟩ := hP
      exact .inl (.inl (s3 _ _ ha))
    · obtain ⟨y4, y5, rfl, eD, s3⟩ := hP
      rw [List.getElem?_map] at hv
      obtain ⟨x, hx, rfl⟩ : ∃ x, ss[i]? = some x ∧ v = .str x := by
        cases hz : ss[i]? with
        | none =>
          rw [hz] at hv
          cases hv
        | some x =>
          rw [hz] at hv
          exact ⟨x, rfl, (Option.some.inj hv).symm⟩
      have hxk := hss x (List.mem_of_getElem? hx)
      obtain ⟨d, hval, hd⟩ := he.look hxk
      have nDd : d ≠ D := ne_of_none hd nD
      have nud : u ≠ d := by
        intro z
        rw [← z, hU] at hd
        cases Option.some.inj hd
        rw [valV_flag] at hval
        split at hval <;> cases hval
      have d3 := s3 _ _ hd
      refine ⟨d, _, d3, trivial, fun od => ?_⟩
      have u3 : (upd H3 d (.frz od (.dK (flag (look tab x))))) u = some (.dK kvs) := by
        rw [upd_ne nud]
        exact s3 _ _ hU
      have gg := DGet.k (k := Sum.inr x) u3
      rw [hval] at gg
      refine ⟨.ref u, rfl, .str x, rfl, u, .ref d, rfl, gg, d, od, rfl, .inl ⟨_, upd_same, ?_⟩⟩
      refine for_it walk_keys (fun j σ H4 => ∃ y5 : Option V, σ = [some (.str n), some (.ref a), some (.ref u), some (.ref D), some (.str x), y5] ∧ H4 D = some (.dK (flag (addAll (ancAt tab n ss i) ((look tab x).take j)))) ∧
          H4 d = some (.frz od (.dK (flag (look tab x)))) ∧ ∀ b o, b ≠ d → H b = some o → H4 b = some o)
        ⟨y5, rfl, by rw [upd_ne nDd.symm]; exact eD, upd_same, fun b o nb hb => by rw [upd_ne nb]; exact s3 _ _ hb⟩ (fun j σ H4 _ hP => ?_) (fun j v σ H4 H5 hj hP hY => ?_) (fun σ H4 hP => ?_)
      · obtain ⟨_, _, _, e, _⟩ := hP
        exact e
      · obtain ⟨y5, rfl, e1, e2, e3⟩ := hP
        obtain ⟨rfl, k', v', hk, rfl⟩ := hY
        obtain ⟨z, hz, rfl⟩ : ∃ z, (look tab x)[j]? = some z ∧ k' = Sum.inr z := by
          unfold flag at hk
          rw [List.getElem?_map] at hk
          cases hz : (look tab x)[j]? with
          | none =>
            rw [hz] at hk
            cases hk
          | some z =>
            rw [hz] at hk
            cases hk
            exact ⟨z, rfl, rfl⟩
        have ln : (addAll (ancAt tab n ss i) ((look tab x).take j)).length ≤ (n :: tabKeys tab).length := by
          refine nodup_le (addAll_nodup ancOf_nodup) fun y hy => ?_
          rcases mem_addAll.mp hy with g | g
          · rcases mem_ancOf.mp g with rfl | ⟨s', _, g2⟩
            · exact List.mem_cons_self ..
            · exact List.mem_cons_of_mem _ (look_sub hok g2)
          · exact List.mem_cons_of_mem _ (look_sub hok (List.mem_of_mem_take g))
        have lt : (tabKeys tab).length = tab.length := List.length_map _
        rw [List.length_cons, lt] at ln
        refine ⟨.ref D, rfl, .str z, rfl, D, _, rfl, DPut.k (k := Sum.inr z) e1 (by rw [flag_len]; exact sz1 (by omega)), ?_⟩
        refine ⟨_, rfl, ?_, ?_, ?_⟩
        · rw [upd_same, put_flag, addAll_take _ hz]
        · rw [upd_ne nDd]
          exact e2
        · intro b o nb hb
          rw [upd_ne (ne_of_none hb nD)]
          exact e3 b o nb hb
      · obtain ⟨y5, rfl, e1, e2, e3⟩ := hP
        refine ⟨e2, _, _, rfl, ?_, ?_⟩
        · rw [upd_ne nDd.symm, e1, flag_len, List.take_length, ancAt_next hx]
        · intro b o hb
          by_cases z : b = d
          · subst z
            rw [upd_same, ← hd]
            exact hb
          · rw [upd_ne z]
            exact e3 b o z hb
    · obtain ⟨y4, y5, rfl, eD, s3⟩ := hP
      have et : ss.take (ss.map V.str).length = ss := by
        rw [List.length_map, List.take_length]
      unfold ancAt at eD
      rw [et] at eD
      exact ⟨.ref D, rfl, q _ D s3 nD eD⟩
/-- raise InvalidHierarchy(problem, position) -/
theorem mk_ih {K : PySem.W.Frag} {C : Addr} {H1 : Hp} {p : Str} {i : Int} {Q : XK} (hp : p.length ≤ 100) (h0 : 0 ≤ i) (hi : i.natAbs ≤ 10 ^ 60)
    (q : ∀ H' e, Same H1 H' → H1 e = none → H' e = some (.xd (ihF p i)) → Q (.ref C) (some e) H') : ∀ a, H1 a = none →
    spIH K C (.ref a :: ([.str p, .int i] ++ [])) (upd H1 a (exo a C none)) (fun v H2 => v = .non ∧ ∃ (d : Addr) (fs : List (Str × V)), H2 a = some (exo a C (some d)) ∧ H2 d = some (exd d fs) ∧ H1 d = none ∧ Q (.ref C) (some d) (upd (del H2 a) d (.xd fs))) (fun _ _ _ => False) := by
  intro a na
  refine ⟨a, p, i, rfl, hp, h0, hi, upd_same, fun d nd ne => ⟨rfl, d, ihF p i, ?_, upd_same, ?_, ?_⟩⟩
  · rw [upd_ne ne.symm, upd_same]
  · rw [upd_ne ne] at nd
    exact nd
  · have nd1 : H1 d = none := by
      rw [upd_ne ne] at nd
      exact nd
    refine q _ _ (fun b o hb => ?_) nd1 upd_same
    have nbd := ne_of_none hb nd1
    have nba := ne_of_none hb na
    rw [upd_ne nbd, del_ne nba, upd_ne nbd, upd_ne nba, upd_ne nbd, upd_ne nba]
    exact hb
def spInitX (C CI : Addr) : Sp := fun vs H Q E => ∃ (x dx : Addr) (v : V) (dt : PyData) (ok : Addr → Prop), vs = [.ref x, v] ∧ H x = some (.ins C dx []) ∧ ShO ok H v dt ∧ (∀ a, ok a → a ≠ sysModules) ∧ (∀ a, ok a → a ≠ x) ∧
  (∀ d ∈ itemsD dt, Fit 900 15 d) ∧ (itemsD dt).length ≤ 90 ∧ (∀ H' rows, initD dt = .ok rows → HierAt C H' x rows → But x H H' → Q .non H') ∧
  (∀ H' e p i, initD dt = .error (p, i) → H' e = some (.xd (ihF p i)) → But x H H' → H e = none → E (.ref CI) (some e) H')
theorem ok_initX {f fP fA fI C CI : Addr} {fd fdP fdA fdI : FuncData} {k : Nat} {dvs : List V} (F : FunD K "__init__" "Hierarchy.__init__" (defArgs m_init) (defBody m_init) (defScope m_init) dvs [] f fd) (T : HTxt K mg C)
    (FP : Fun K "row_problem" "row_problem" sProb fP fdP) (bP : Binds K fdP ["row", "known"] []) (gP : mg "row_problem" = some (.ref fP))
    (FA : Fun K "ancestors_of" "ancestors_of" sAnc fA fdA) (bA : Binds K fdA ["name", "superclasses", "above"] []) (gA : mg "ancestors_of" = some (.ref fA))
    (TI : OexC K CI) (iI : PySem.W.findIn K (.ref CI) "__init__" = some (some (.ref fI))) (tI : PySem.W.typeIn K (.ref fI) = some (.type "function")) (gI : mg "InvalidHierarchy" = some (.ref CI)) (bI : Binds K fdI ["self", "problem", "position"] [])
    (GI : FnOk P w K mg base CX0 (k + 2) fI fdI ["self", "problem", "position"] (spIH K CI))
    (GP : FnOk P w K mg base CX0 (k + 2) fP fdP ["row", "known"] (spProb K)) (GA : FnOk P w K mg base CX0 (k + 1) fA fdA ["name", "superclasses", "above"] spAnc)
    (mi : mg "isinstance" = none) (mT : mg "tuple" = none) (mL : mg "list" = none) (me : mg "enumerate" = none) (ml : mg "len" = none) :
    FnOk P w K mg base (L2.CX P w) (k + 4) f fd ["self", "classes"] (spInitX C CI) := by
  refine F.ok scInit (fun vs H Q E h => ?_) (fun cdv A outer s H vs Q E hr h => ?_)
  · obtain ⟨x, dx, v, dt, ok, rfl, _⟩ := h
    rfl
  · obtain ⟨x, dx, v, dt, ok, rfl, hx, sho, hoks, hokx, hfit, hlen, finO, finE⟩ := h
    have hu := hu_of hr
    have hrA := hr.mono (by omega : k + 1 ≤ k + 3)
    have hrP := hr.mono (by omega : k + 2 ≤ k + 3)
    refine ⟨_, pss_cons (ps_if (pt_not (pt_val (pe_callB call_isiT (by rfl) mi (by decide +kernel) (pa_cons (pv 1)
          (pa_cons (pe_tup (pa_cons (pe_bltn (v := .ty "list") (by rfl) mL (by decide +kernel : bootBuiltins "list" = some (.type "list")) rfl)
            (pa_cons (pe_bltn (v := .ty "tuple") (by rfl) mT (by decide +kernel : bootBuiltins "tuple" = some (.type "tuple")) rfl) pa_nil))) pa_nil)))))
          (pss_one (ps_raise rfl (takes_of rfl rfl rfl rfl) (pmk_oex TI iI tI GI hr bI .nil pass0 (by rfl) gI (pa_cons pe_str (pa_cons pe_int pa_nil))))) pss_nil)
      (pss_cons (ps_fld (pv 0) (pe_lst pa_nil) rfl)
      (pss_cons (ps_fld (pv 0) pe_dnewK rfl)
      (pss_cons (ps_fld (pv 0) pe_dnewK rfl)
      (pss_cons (ps_for (passes_of rfl) rfl (pi_enumS (by rfl) me (pa_cons (pv 1) pa_nil))
          (pg_tup rfl (pgs_cons (pg_name (i := 2) scInit.nd rfl (.inl rfl)) (pgs_cons (pg_name (i := 3) scInit.nd rfl (.inl rfl)) pgs_nil)))
        (pss_cons (ps_set (i := 4) scInit.nd rfl (.inl rfl) (pe_call GP hrP (by rfl) gP FP.kp bP .nil pass0 (pa_cons (pv 3) (pa_cons (pe_fld (pv 0) rfl) pa_nil))))
        (pss_cons (ps_if (pt_cmpR op_notN (pv 4) pe_non (nomark _)) (pss_one (ps_raise rfl (takes_of rfl rfl rfl rfl) (pmk_oex TI iI tI GI hr bI .nil pass0 (by rfl) gI (pa_cons (pv 4) (pa_cons (pv 2) pa_nil))))) pss_nil)
        (pss_cons (ps_asg (pv 3) (pg_tup (by rfl) (pgs_cons (pg_name (i := 5) scInit.nd rfl (.inl rfl)) (pgs_cons (pg_name (i := 6) scInit.nd rfl (.inl rfl)) pgs_nil))))
        (pss_cons (ps_expr (pe_bm PySem.F.plainAttrs_list PySem.F.slot_list_append PySem.F.type_list_append mt_append (pe_fld (pv 0) rfl)
            (pa_cons (pe_tup (pa_cons (pv 5) (pa_cons (pv 6) pa_nil))) pa_nil)))
        (pss_cons (ps_dput hu (pe_fld (pv 0) rfl) (pv 5) (pv 2) rfl)
        (pss_one (ps_dput hu (pe_fld (pv 0) rfl) (pv 5) (pe_call GA hrA (by rfl) gA FA.kp bA .nil pass0 (pa_cons (pv 5) (pa_cons (pv 6) (pa_cons (pe_fld (pv 0) rfl) pa_nil)))) rfl))))))))
      (pss_one (ps_if (pt_cmpR op_gt (pe_callB call_len_seq (by rfl) ml PySem.boot_len (pa_cons (pe_fld (pv 0) rfl) pa_nil)) (ClX.pe_cval (pe_glob (v := .ref C) (by rfl) T.mgC rfl)) (nomark _))
          (pss_one (ps_raise rfl (takes_of rfl rfl rfl rfl) (pmk_oex TI iI tI GI hr bI .nil pass0 (by rfl) gI (pa_cons pe_str (pa_cons (ClX.pe_cval (pe_glob (v := .ref C) (by rfl) T.mgC rfl)) pa_nil))))) pss_nil)))))), ?_⟩
    refine ⟨v, rfl, (by decide : 2 ≤ sizeLine), fun tp ntp => ?_⟩
    have s0 := same_new (o := .tup [.ty "list", .ty "tuple"]) ntp
    refine ⟨v, tp, [.ty "list", .ty "tuple"], _, [.type "list", .type "tuple"], _, rfl, upd_same, .cons (.ty _) (.cons (.ty _) .nil), ((sho.same s0).sh (K := K) hoks).tyIs, kit_seq dt, _, rfl, ?_⟩
    by_cases hq : isSeq dt = true
    case neg =>
      have hq2 : isSeq dt = false := Bool.eq_false_iff.mpr hq
      rw [hq2]
      refine iteT ⟨(show 2 ≤ 1000 from by decide), mk_ih (by decide +kernel) (by decide) (by decide) fun H7 e s7 ne he => ?_⟩
      refine finE H7 e _ 0 ?_ he (fun b o _ hb => s7 _ _ (s0 _ _ hb)) (s0.free ne)
      cases dt with
      | list ds => cases hq2
      | tuple ds => cases hq2
      | _ => rfl
    rw [hq]
    refine iteF ?_
    have x0 := s0 _ _ hx
    refine ⟨(by decide : 0 ≤ sizeLine), fun r nr => ?_⟩
    have nxr : x ≠ r := ne_of_none x0 nr
    refine ⟨.ref x, rfl, x, C, dx, [], rfl, (by rw [upd_ne nxr]; exact x0), T.cl, T.nR, (by show 0 < 1000; decide), ?_⟩
    intro q nq
    have nxq : x ≠ q := ne_of_none upd_same nq
    have nrq : r ≠ q := ne_of_none (o := .lst []) (by rw [upd_ne nxr.symm, upd_same]) nq
    refine ⟨.ref x, rfl, x, C, dx, _, rfl, (by rw [upd_ne nxq, upd_same]), T.cl, T.nP, (by show 1 < 1000; decide), ?_⟩
    intro u nu
    have nxu : x ≠ u := ne_of_none upd_same nu
    have nqu : q ≠ u := ne_of_none (o := .dK []) (by rw [upd_ne nxq.symm, upd_same]) nu
    have nru : r ≠ u := ne_of_none (o := .lst []) (by rw [upd_ne nxr.symm, upd_ne nrq, upd_ne nxr.symm, upd_same]) nu
    refine ⟨.ref x, rfl, x, C, dx, _, rfl, (by rw [upd_ne nxu, upd_same]), T.cl, T.nA, two_flds r q, ?_⟩
    have nr0 : H r = none := s0.free nr
    have nq0 : H q = none := by
      have : (upd (upd H tp (.tup [.ty "list", .ty "tuple"])) r (.lst [])) q = none := by
        rw [upd_ne nxq.symm] at nq
        exact nq
      exact s0.free ((same_new nr).free this)
    have nu0 : H u = none := by
      rw [upd_ne nxu.symm, upd_ne nqu.symm, upd_ne nxu.symm] at nu
      exact s0.free ((same_new nr).free nu)
    have P0 : ∃ (y2 y3 y4 y5 y6 : Option V) (rvs : List V) (kvs : List (Key × V)), ([some (.ref x), some v, none, none, none, none, none] : List (Option V)) = [some (.ref x), some v, y2, y3, y4, y5, y6] ∧
        (upd (upd (upd (upd (upd (upd (upd H tp (.tup [.ty "list", .ty "tuple"])) r (.lst [])) x (.ins C dx (putF "rows" (.ref r) []))) q (.dK [])) x (.ins C dx (putF "places" (.ref q) (putF "rows" (.ref r) [])))) u (.dK [])) x (.ins C dx (flds r q u))) x = some (.ins C dx (flds r q u)) := ⟨none, none, none, none, none, [], [], rfl, upd_same⟩
    clear P0
    generalize hG : (upd (upd (upd (upd (upd (upd (upd H tp (.tup [.ty "list", .ty "tuple"])) r (.lst [])) x (.ins C dx (putF "rows" (.ref r) []))) q (.dK [])) x (.ins C dx (putF "places" (.ref q) (putF "rows" (.ref r) [])))) u (.dK [])) x (.ins C dx (putF "above" (.ref u) (putF "places" (.ref q) (putF "rows" (.ref r) []))))) = G
    have gx : G x = some (.ins C dx (flds r q u)) := by
      rw [← hG]
      exact upd_same
    have gr : G r = some (.lst []) := by
      rw [← hG, upd_ne nxr.symm, upd_ne nru, upd_ne nxr.symm, upd_ne nrq, upd_ne nxr.symm, upd_same]
    have gq : G q = some (.dK []) := by
      rw [← hG, upd_ne nxq.symm, upd_ne nqu, upd_ne nxq.symm, upd_same]
    have gu : G u = some (.dK []) := by
      rw [← hG, upd_ne nxu.symm, upd_same]
    have gb : But x H G := by
      intro b o nb hb
      rw [← hG, upd_ne nb, upd_ne (ne_of_none hb nu0), upd_ne nb, upd_ne (ne_of_none hb nq0), upd_ne nb, upd_ne (ne_of_none hb nr0)]
      exact s0 _ _ hb
    clear hG
    obtain ⟨ds, hdsE⟩ : ∃ ds, ds = itemsD dt := ⟨_, rfl⟩
    obtain ⟨Pv, hPv⟩ : ∃ Pv : Nat → L2.St → Hp → Prop, Pv = fun i σ H4 => ∃ (y2 y3 y4 y5 y6 : Option V) (rows : List Row2) (rvs : List V) (kvs : List (Key × V)), σ = [some (.ref x), some v, y2, y3, y4, y5, y6] ∧ rows.length = i ∧ goD [] ds = goD rows (ds.drop i) ∧
        H4 x = some (.ins C dx (flds r q u)) ∧ H4 r = some (.lst rvs) ∧ RowsAre H4 rvs rows ∧ H4 q = some (.dK (placeKV (fsts rows))) ∧ H4 u = some (.dK kvs) ∧
        Entries H4 kvs (ancTab rows) ∧ (∀ kv ∈ kvs, kv.2 ≠ .ref q ∧ kv.2 ≠ .ref u ∧ kv.2 ≠ .ref r) ∧ But x H H4 := ⟨_, rfl⟩
    have start : Pv 0 [some (.ref x), some v, none, none, none, none, none] G := by
      rw [hPv]
      exact ⟨none, none, none, none, none, [], [], [], rfl, rfl, rfl, gx, gr, .nil, gq, gu, .nil, fun kv h => (nomatch h), gb⟩
    refine ⟨v, rfl, ?_⟩
    cases sho with
    | @lst c us ds2 e1 o1 hds =>
      obtain rfl : ds = ds2 := hdsE
      have ld := hds.length
      have hc : SqL K H c us := .inl (.inl e1)
      have hlen2 : ds.length ≤ 90 := hlen
      refine .inl ⟨c, us, rfl, sqL_but hc hx gb, ?_⟩
      refine for_it (walk_enum (xs := us)) Pv start (fun i σ H4 _ hP => ?_) (fun i v σ H4 H5 hi hP hY => ?_) (fun σ H4 hP => ?_)
      · rw [hPv] at hP
        obtain ⟨_, _, _, _, _, _, _, _, _, _, _, _, _, _, _, _, _, _, b4⟩ := hP
        exact sqL_but hc hx b4
      · rw [hPv] at hP
        obtain ⟨y2, y3, y4, y5, y6, rows, rvs, kvs, rfl, lr0, pre, ex, er, era, eq, eu, een, ene, b4⟩ := hP
        obtain ⟨T5, a5, v5, rfl, nT5, rfl, ea5, ev5⟩ := hY
        cases Option.some.inj ea5
        obtain ⟨dt5, hdt5, sho5⟩ := shoGet hds ev5
        have fi5 : Fit 900 15 dt5 := hfit _ (List.mem_of_getElem? hdt5)
        have il : i < us.length := hi
        have il2 : i < ds.length := by omega
        have s5 := same_new (o := .tup [.int (i : Nat), v5]) nT5
        have sho4 : ShO ok H4 v5 dt5 := ShO.butI hokx hx b4 sho5
        have lf : (fsts rows).length = i := by
          unfold fsts
          rw [List.length_map]
          exact lr0
        refine ⟨T5, [.int (i : Nat), v5], rfl, .inl (.inl upd_same), rfl, _, _, rfl, _, _, rfl, rfl, ?_⟩
        -- problem
        refine ⟨v5, rfl, .ref x, rfl, x, C, dx, _, _, rfl, s5 _ _ ex, T.cl, T.nP, flds_places r q u, v5, false, dt5, q, fsts rows, _, rfl, (sho4.same s5).sh hoks, fi5.mono (Nat.le_refl _) (by decide), s5 _ _ eq, (fun y => place_val y _), fun H6 s6 => ?_⟩
        have s46 := s5.trans s6
        have drop : ds.drop i = dt5 :: ds.drop (i + 1) := by
          rw [List.drop_eq_getElem_cons il2]
          rw [List.getElem?_eq_getElem il2] at hdt5
          rw [Option.some.inj hdt5]
        cases hpr : probD (fsts rows) dt5 with
        | some pr =>
          refine ⟨.str pr, rfl, rfl, _, rfl, iteT ?_⟩
          have ge : goD [] ds = .error (pr, (i : Int)) := by
            rw [pre, drop, goD, hpr, lr0]
          have hpl : pr.length ≤ 100 := prob_len hpr
          refine ⟨.str pr, rfl, .int (i : Nat), rfl, (show 2 ≤ 1000 from by decide), mk_ih hpl (by omega) (by omega) fun H7 e s7 ne he => ?_⟩
          refine finE H7 e pr (i : Nat) ?_ he ?_ ?_
          · rw [show initD (.list ds) = endD (goD [] ds) from rfl, ge]
            rfl
          · intro b o nb hb
            exact s7 _ _ (s46 _ _ (b4 _ _ nb hb))
          · cases hz : H e with
            | none => rfl
            | some o =>
              by_cases zx : e = x
              · rw [zx, s46 _ _ ex] at ne
                cases ne
              · rw [s46 _ _ (b4 _ _ zx hz)] at ne
                cases ne
        | none =>
        obtain ⟨n, es, rfl, v1, v2, v3, v4⟩ := prob_none hpr
        obtain ⟨t, sA, rfl, ht, hsA⟩ : ∃ (t sA : Addr), v5 = .ref t ∧ H4 t = some (.tup [.str n, .ref sA]) ∧ H4 sA = some (.tup ((es.map strOf).map V.str)) := by
          cases sho4 with
          | tup e1 a1 =>
            cases a1 with
            | cons b1 a2 =>
              cases b1
              cases a2 with
              | cons b2 a3 =>
                cases a3
                cases b2 with
                | tup e2 a4 =>
                  refine ⟨_, _, rfl, e1, ?_⟩
                  rw [e2, strs_ofO a4 v4.1]
        obtain ⟨ss, hss⟩ : ∃ ss, ss = es.map strOf := ⟨_, rfl⟩
        rw [← hss] at hsA v4
        have RA4 : RowAt H4 (.ref t) (n, ss) := ⟨t, sA, rfl, ht, hsA⟩
        have ssl : ss.length ≤ i := by
          have := nodup_le v4.2.1 v4.2.2
          omega
        have vn : valV (placeKV (fsts rows)) (Sum.inr n : Key) = none := by
          have := place_val n (fsts rows)
          rw [decide_eq_false v2] at this
          exact Option.isNone_iff_eq_none.mp (by rw [← Option.not_isSome, this]; rfl)
        refine ⟨.non, rfl, rfl, _, rfl, iteF ?_⟩
        -- name, superclasses = row
        refine ⟨.ref t, rfl, t, _, rfl, .inl (.inl (s46 _ _ ht)), rfl, _, _, rfl, _, _, rfl, rfl, ?_⟩
        -- self.rows.append(..)
        have r6 := s46 _ _ er
        refine ⟨.ref x, rfl, x, C, dx, _, _, rfl, s46 _ _ ex, T.cl, T.nR, flds_rows r q u, .inl ⟨rfl, _, .inl (.inl r6)⟩, .str n, rfl, .ref sA, rfl, (by decide : 2 ≤ sizeLine), fun w7 n7 => ?_⟩
        have s7 := same_new (o := .tup [.str n, .ref sA]) n7
        have s47 := s46.trans s7
        have r7 := s47 _ _ er
        have lr : rvs.length = i := by
          have := era.length
          omega
        refine ⟨r, rvs, _, rfl, rfl, r7, sz1 (by omega), ?_⟩
        have x8 : ∀ o, (upd (upd H6 w7 (.tup [.str n, .ref sA])) r o) x = some (.ins C dx (flds r q u)) := fun o => by
          rw [upd_ne nxr]
          exact s47 _ _ ex
        have q8 : ∀ o, (upd (upd H6 w7 (.tup [.str n, .ref sA])) r o) q = some (.dK (placeKV (fsts rows))) := fun o => by
          rw [upd_ne nrq.symm]
          exact s47 _ _ eq
        have u8 : ∀ o, (upd (upd H6 w7 (.tup [.str n, .ref sA])) r o) u = some (.dK kvs) := fun o => by
          rw [upd_ne nru.symm]
          exact s47 _ _ eu
        -- self.places[name] = position
        refine ⟨.int (i : Nat), rfl, .ref x, rfl, x, C, dx, _, _, rfl, x8 _, T.cl, T.nP, flds_places r q u, .str n, rfl, q, _, rfl, DPut.k (k := Sum.inr n) (q8 _) (by rw [place_len]; exact sz1 (by omega)), ?_⟩
        rw [putK_new _ vn]
        generalize hM : upd (upd (upd H6 w7 (.tup [.str n, .ref sA])) r (.lst (rvs ++ [.ref w7]))) q (.dK (placeKV (fsts rows) ++ [(Sum.inr n, .int (i : Nat))])) = M
        have mx : M x = some (.ins C dx (flds r q u)) := by
          rw [← hM, upd_ne nxq]
          exact x8 _
        have mr : M r = some (.lst (rvs ++ [.ref w7])) := by
          rw [← hM, upd_ne nrq, upd_same]
        have mq : M q = some (.dK (placeKV (fsts rows) ++ [(Sum.inr n, .int (i : Nat))])) := by
          rw [← hM, upd_same]
        have mu : M u = some (.dK kvs) := by
          rw [← hM, upd_ne nqu.symm]
          exact u8 _
        have mra : RowsAre M (rvs ++ [.ref w7]) (rows ++ [(n, ss)]) := by
          rw [← hM]
          refine RowsAre.wrX (q8 _) (by intro xs z; cases z) (RowsAre.wrX r7 (by intro xs z; cases z) ?_)
          refine RowsAre.snoc (era.same s47) ⟨w7, sA, rfl, upd_same, ?_⟩
          exact s47 _ _ hsA
        have men : Entries M kvs (ancTab rows) := by
          rw [← hM]
          refine Entries.wr (Entries.wr (een.mono fun d as e => s47 _ _ e) fun kv hk => (ene kv hk).2.2) fun kv hk => (ene kv hk).1
        have mb : But x H M := by
          intro b o nb hb
          rw [← hM, upd_ne (ne_of_none hb nq0), upd_ne (ne_of_none hb nr0)]
          exact s47 _ _ (b4 _ _ nb hb)
        have msA : M sA = some (.tup (ss.map V.str)) := by
          rw [← hM, upd_ne (ne_of (s47 _ _ hsA) (s47 _ _ eq) (by intro z; cases z)), upd_ne (ne_of (s47 _ _ hsA) r7 (by intro z; cases z))]
          exact s47 _ _ hsA
        clear hM
        -- ancestors_of(name, superclasses, self.above)
        have tko : TabOk (ancTab rows) := by
          have := ancTab_ok rows rows.length
          rw [List.take_length] at this
          exact this
        refine ⟨.str n, rfl, .ref sA, rfl, .ref x, rfl, x, C, dx, _, _, rfl, mx, T.cl, T.nA, flds_above r q u, n, sA, u, ss, kvs, ancTab rows, rfl, msA, mu, men, tko, ?_, ?_, fun H9 F9 s9 nF9 eF9 => ?_⟩
        · have := ancTab_keys rows
          have e2 := congrArg List.length this
          unfold tabKeys at e2
          rw [List.length_map, lf] at e2
          omega
        · intro y hy
          rw [ancTab_keys]
          exact v4.2.2 y hy
        have kl : kvs.length = i := by
          have h1 := men.length
          have := ancTab_keys rows
          have e2 := congrArg List.length this
          unfold tabKeys at e2
          rw [List.length_map, lf] at e2
          omega
        have kn : valV kvs (Sum.inr n : Key) = none := men.none (by rw [ancTab_keys]; exact v2)
        refine ⟨.ref x, rfl, x, C, dx, _, _, rfl, s9 _ _ mx, T.cl, T.nA, flds_above r q u, .str n, rfl, u, _, rfl, DPut.k (k := Sum.inr n) (s9 _ _ mu) (sz1 (by omega)), ?_⟩
        rw [putK_new _ kn, hPv]
        refine ⟨_, _, _, _, _, rows ++ [(n, ss)], rvs ++ [.ref w7], kvs ++ [(Sum.inr n, .ref F9)], rfl, ?_, ?_, ?_, ?_, ?_, ?_, upd_same, ?_, ?_, ?_⟩
        · rw [List.length_append, lr0]
          rfl
        · rw [pre, drop, goD, hpr]
          show goD (rows ++ [rowOf _]) _ = _
          rw [hss]
          rfl
        · rw [upd_ne nxu]
          exact s9 _ _ mx
        · rw [upd_ne nru]
          exact s9 _ _ mr
        · exact RowsAre.wrX (s9 _ _ mu) (by intro xs z; cases z) (mra.same s9)
        · rw [upd_ne nqu, fsts_snoc, place_snoc, lf]
          exact s9 _ _ mq
        · rw [ancTab_snoc]
          refine Entries.wr (Entries.snoc (men.mono fun d as e => s9 _ _ e) ⟨rfl, F9, rfl, eF9⟩) ?_
          intro kv hk
          rcases List.mem_append.mp hk with z | z
          · exact (ene kv z).2.1
          · rw [List.mem_singleton.mp z]
            intro z2
            cases z2
            rw [mu] at nF9
            cases nF9
        · intro kv hk
          rcases List.mem_append.mp hk with z | z
          · exact ene kv z
          · rw [List.mem_singleton.mp z]
            refine ⟨fun z2 => ?_, fun z2 => ?_, fun z2 => ?_⟩
            · cases z2
              rw [mq] at nF9
              cases nF9
            · cases z2
              rw [mu] at nF9
              cases nF9
            · cases z2
              rw [mr] at nF9
              cases nF9
        · intro b o nb hb
          rw [upd_ne (ne_of_none hb nu0)]
          exact s9 _ _ (mb _ _ nb hb)
      · rw [hPv] at hP
        obtain ⟨y2, y3, y4, y5, y6, rows, rvs, kvs, rfl, lr0, pre, ex, er, era, eq, eu, een, ene, b4⟩ := hP
        have ge : goD [] ds = .ok rows := by
          rw [pre, List.drop_of_length_le (by omega), goD]
        have lr := era.length
        obtain ⟨mc, ul, h1, h2⟩ := T.lim
        refine ⟨.ref x, rfl, x, C, dx, _, _, rfl, ex, T.cl, T.nR, flds_rows r q u, r, rvs, rfl, .inl (.inl (.inl er)), C, mc, .int 20, ul, rfl, h1, h2, _, _, rfl, rfl, _, rfl, ?_⟩
        by_cases hmany : rows.length ≤ 20
        · rw [decide_eq_false (by omega : ¬ (rvs.length : Int) > 20)]
          refine iteF (finO _ rows ?_ ⟨dx, r, q, u, rvs, kvs, ex, er, era, eq, eu, een⟩ b4)
          rw [show initD (.list ds) = endD (goD [] ds) from rfl, ge]
          show (if rows.length ≤ 20 then _ else _) = _
          rw [if_pos hmany]
        · rw [decide_eq_true (by omega : (rvs.length : Int) > 20)]
          refine iteT ⟨C, mc, .int 20, ul, rfl, h1, h2, (show 2 ≤ 1000 from by decide), mk_ih (by decide +kernel) (by decide) (by decide) fun H7 e s7 ne he => ?_⟩
          refine finE H7 e _ 20 ?_ he ?_ ?_
          · rw [show initD (.list ds) = endD (goD [] ds) from rfl, ge]
            show (if rows.length ≤ 20 then _ else _) = _
            rw [if_neg hmany]
          · intro b o nb hb
            exact s7 _ _ (b4 _ _ nb hb)
          · cases hz : H e with
            | none => rfl
            | some o =>
              by_cases zx : e = x
              · rw [zx, ex] at ne
                cases ne
              · rw [b4 _ _ zx hz] at ne
                cases ne
    | @tup c us ds2 e1 hds =>
      obtain rfl : ds = ds2 := hdsE
      have ld := hds.length
      have hc : SqT K H c us := .inl (.inl e1)
      have hlen2 : ds.length ≤ 90 := hlen
      refine .inr ⟨c, us, rfl, sqT_but hc hx gb, ?_⟩
      refine for_it (walk_enumT (xs := us)) Pv start (fun i σ H4 _ hP => ?_) (fun i v σ H4 H5 hi hP hY => ?_) (fun σ H4 hP => ?_)
      · rw [hPv] at hP
        obtain ⟨_, _, _, _, _, _, _, _, _, _, _, _, _, _, _, _, _, _, b4⟩ := hP
        exact sqT_but hc hx b4
      · rw [hPv] at hP
        obtain ⟨y2, y3, y4, y5, y6, rows, rvs, kvs, rfl, lr0, pre, ex, er, era, eq, eu, een, ene, b4⟩ := hP
        obtain ⟨T5, a5, v5, rfl, nT5, rfl, ea5, ev5⟩ := hY
        cases Option.some.inj ea5
        obtain ⟨dt5, hdt5, sho5⟩ := shoGet hds ev5
        have fi5 : Fit 900 15 dt5 := hfit _ (List.mem_of_getElem? hdt5)
        have il : i < us.length := hi
        have il2 : i < ds.length := by omega
        have s5 := same_new (o := .tup [.int (i : Nat), v5]) nT5
        have sho4 : ShO ok H4 v5 dt5 := ShO.butI hokx hx b4 sho5
        have lf : (fsts rows).length = i := by
          unfold fsts
          rw [List.length_map]
          exact lr0
        refine ⟨T5, [.int (i : Nat), v5], rfl, .inl (.inl upd_same), rfl, _, _, rfl, _, _, rfl, rfl, ?_⟩
        -- problem
        refine ⟨v5, rfl, .ref x, rfl, x, C, dx, _, _, rfl, s5 _ _ ex, T.cl, T.nP, flds_places r q u, v5, false, dt5, q, fsts rows, _, rfl, (sho4.same s5).sh hoks, fi5.mono (Nat.le_refl _) (by decide), s5 _ _ eq, (fun y => place_val y _), fun H6 s6 => ?_⟩
        have s46 := s5.trans s6
        have drop : ds.drop i = dt5 :: ds.drop (i + 1) := by
          rw [List.drop_eq_getElem_cons il2]
          rw [List.getElem?_eq_getElem il2] at hdt5
          rw [Option.some.inj hdt5]
        cases hpr : probD (fsts rows) dt5 with
        | some pr =>
          refine ⟨.str pr, rfl, rfl, _, rfl, iteT ?_⟩
          have ge : goD [] ds = .error (pr, (i : Int)) := by
            rw [pre, drop, goD, hpr, lr0]
          have hpl : pr.length ≤ 100 := prob_len hpr
          refine ⟨.str pr, rfl, .int (i : Nat), rfl, (show 2 ≤ 1000 from by decide), mk_ih hpl (by omega) (by omega) fun H7 e s7 ne he => ?_⟩
          refine finE H7 e pr (i : Nat) ?_ he ?_ ?_
          · rw [show initD (.tuple ds) = endD (goD [] ds) from rfl, ge]
            rfl
          · intro b o nb hb
            exact s7 _ _ (s46 _ _ (b4 _ _ nb hb))
          · cases hz : H e with
            | none => rfl
            | some o =>
              by_cases zx : e = x
              · rw [zx, s46 _ _ ex] at ne
                cases ne
              · rw [s46 _ _ (b4 _ _ zx hz)] at ne
                cases ne
        | none =>
        obtain ⟨n, es, rfl, v1, v2, v3, v4⟩ := prob_none hpr
        obtain ⟨t, sA, rfl, ht, hsA⟩ : ∃ (t sA : Addr), v5 = .ref t ∧ H4 t = some (.tup [.str n, .ref sA]) ∧ H4 sA = some (.tup ((es.map strOf).map V.str)) := by
          cases sho4 with
          | tup e1 a1 =>
            cases a1 with
            | cons b1 a2 =>
              cases b1
              cases a2 with
              | cons b2 a3 =>
                cases a3
                cases b2 with
                | tup e2 a4 =>
                  refine ⟨_, _, rfl, e1, ?_⟩
                  rw [e2, strs_ofO a4 v4.1]
        obtain ⟨ss, hss⟩ : ∃ ss, ss = es.map strOf := ⟨_, rfl⟩
        rw [← hss] at hsA v4
        have RA4 : RowAt H4 (.ref t) (n, ss) := ⟨t, sA, rfl, ht, hsA⟩
        have ssl : ss.length ≤ i := by
          have := nodup_le v4.2.1 v4.2.2
          omega
        have vn : valV (placeKV (fsts rows)) (Sum.inr n : Key) = none := by
          have := place_val n (fsts rows)
          rw [decide_eq_false v2] at this
          exact Option.isNone_iff_eq_none.mp (by rw [← Option.not_isSome, this]; rfl)
        refine ⟨.non, rfl, rfl, _, rfl, iteF ?_⟩
        -- name, superclasses = row
        refine ⟨.ref t, rfl, t, _, rfl, .inl (.inl (s46 _ _ ht)), rfl, _, _, rfl, _, _, rfl, rfl, ?_⟩
        -- self.rows.append(..)
        have r6 := s46 _ _ er
        refine ⟨.ref x, rfl, x, C, dx, _, _, rfl, s46 _ _ ex, T.cl, T.nR, flds_rows r q u, .inl ⟨rfl, _, .inl (.inl r6)⟩, .str n, rfl, .ref sA, rfl, (by decide : 2 ≤ sizeLine), fun w7 n7 => ?_⟩
        have s7 := same_new (o := .tup [.str n, .ref sA]) n7
        have s47 := s46.trans s7
        have r7 := s47 _ _ er
        have lr : rvs.length = i := by
          have := era.length
          omega
        refine ⟨r, rvs, _, rfl, rfl, r7, sz1 (by omega), ?_⟩
        have x8 : ∀ o, (upd (upd H6 w7 (.tup [.str n, .ref sA])) r o) x = some (.ins C dx (flds r q u)) := fun o => by
          rw [upd_ne nxr]
          exact s47 _ _ ex
        have q8 : ∀ o, (upd (upd H6 w7 (.tup [.str n, .ref sA])) r o) q = some (.dK (placeKV (fsts rows))) := fun o => by
          rw [upd_ne nrq.symm]
          exact s47 _ _ eq
        have u8 : ∀ o, (upd (upd H6 w7 (.tup [.str n, .ref sA])) r o) u = some (.dK kvs) := fun o => by
          rw [upd_ne nru.symm]
          exact s47 _ _ eu
        -- self.places[name] = position
        refine ⟨.int (i : Nat), rfl, .ref x, rfl, x, C, dx, _, _, rfl, x8 _, T.cl, T.nP, flds_places r q u, .str n, rfl, q, _, rfl, DPut.k (k := Sum.inr n) (q8 _) (by rw [place_len]; exact sz1 (by omega)), ?_⟩
        rw [putK_new _ vn]
        generalize hM : upd (upd (upd H6 w7 (.tup [.str n, .ref sA])) r (.lst (rvs ++ [.ref w7]))) q (.dK (placeKV (fsts rows) ++ [(Sum.inr n, .int (i : Nat))])) = M
        have mx : M x = some (.ins C dx (flds r q u)) := by
          rw [← hM, upd_ne nxq]
          exact x8 _
        have mr : M r = some (.lst (rvs ++ [.ref w7])) := by
          rw [← hM, upd_ne nrq, upd_same]
        have mq : M q = some (.dK (placeKV (fsts rows) ++ [(Sum.inr n, .int (i : Nat))])) := by
          rw [← hM, upd_same]
        have mu : M u = some (.dK kvs) := by
          rw [← hM, upd_ne nqu.symm]
          exact u8 _
        have mra : RowsAre M (rvs ++ [.ref w7]) (rows ++ [(n, ss)]) := by
          rw [← hM]
          refine RowsAre.wrX (q8 _) (by intro xs z; cases z) (RowsAre.wrX r7 (by intro xs z; cases z) ?_)
          refine RowsAre.snoc (era.same s47) ⟨w7, sA, rfl, upd_same, ?_⟩
          exact s47 _ _ hsA
        have men : Entries M kvs (ancTab rows) := by
          rw [← hM]
          refine Entries.wr (Entries.wr (een.mono fun d as e => s47 _ _ e) fun kv hk => (ene kv hk).2.2) fun kv hk => (ene kv hk).1
        have mb : But x H M := by
          intro b o nb hb
          rw [← hM, upd_ne (ne_of_none hb nq0), upd_ne (ne_of_none hb nr0)]
          exact s47 _ _ (b4 _ _ nb hb)
        have msA : M sA = some (.tup (ss.map V.str)) := by
          rw [← hM, upd_ne (ne_of (s47 _ _ hsA) (s47 _ _ eq) (by intro z; cases z)), upd_ne (ne_of (s47 _ _ hsA) r7 (by intro z; cases z))]
          exact s47 _ _ hsA
        clear hM
        -- ancestors_of(name, superclasses, self.above)
        have tko : TabOk (ancTab rows) := by
          have := ancTab_ok rows rows.length
          rw [List.take_length] at this
          exact this
        refine ⟨.str n, rfl, .ref sA, rfl, .ref x, rfl, x, C, dx, _, _, rfl, mx, T.cl, T.nA, flds_above r q u, n, sA, u, ss, kvs, ancTab rows, rfl, msA, mu, men, tko, ?_, ?_, fun H9 F9 s9 nF9 eF9 => ?_⟩
        · have := ancTab_keys rows
          have e2 := congrArg List.length this
          unfold tabKeys at e2
          rw [List.length_map, lf] at e2
          omega
        · intro y hy
          rw [ancTab_keys]
          exact v4.2.2 y hy
        have kl : kvs.length = i := by
          have h1 := men.length
          have := ancTab_keys rows
          have e2 := congrArg List.length this
          unfold tabKeys at e2
          rw [List.length_map, lf] at e2
          omega
        have kn : valV kvs (Sum.inr n : Key) = none := men.none (by rw [ancTab_keys]; exact v2)
        refine ⟨.ref x, rfl, x, C, dx, _, _, rfl, s9 _ _ mx, T.cl, T.nA, flds_above r q u, .str n, rfl, u, _, rfl, DPut.k (k := Sum.inr n) (s9 _ _ mu) (sz1 (by omega)), ?_⟩
        rw [putK_new _ kn, hPv]
        refine ⟨_, _, _, _, _, rows ++ [(n, ss)], rvs ++ [.ref w7], kvs ++ [(Sum.inr n, .ref F9)], rfl, ?_, ?_, ?_, ?_, ?_, ?_, upd_same, ?_, ?_, ?_⟩
        · rw [List.length_append, lr0]
          rfl
        · rw [pre, drop, goD, hpr]
          show goD (rows ++ [rowOf _]) _ = _
          rw [hss]
          rfl
        · rw [upd_ne nxu]
          exact s9 _ _ mx
        · rw [upd_ne nru]
          exact s9 _ _ mr
        · exact RowsAre.wrX (s9 _ _ mu) (by intro xs z; cases z) (mra.same s9)
        · rw [upd_ne nqu, fsts_snoc, place_snoc, lf]
          exact s9 _ _ mq
        · rw [ancTab_snoc]
          refine Entries.wr (Entries.snoc (men.mono fun d as e => s9 _ _ e) ⟨rfl, F9, rfl, eF9⟩) ?_
          intro kv hk
          rcases List.mem_append.mp hk with z | z
          · exact (ene kv z).2.1
          · rw [List.mem_singleton.mp z]
            intro z2
            cases z2
            rw [mu] at nF9
            cases nF9
        · intro kv hk
          rcases List.mem_append.mp hk with z | z
          · exact ene kv z
          · rw [List.mem_singleton.mp z]
            refine ⟨fun z2 => ?_, fun z2 => ?_, fun z2 => ?_⟩
            · cases z2
              rw [mq] at nF9
              cases nF9
            · cases z2
              rw [mu] at nF9
              cases nF9
            · cases z2
              rw [mr] at nF9
              cases nF9
        · intro b o nb hb
          rw [upd_ne (ne_of_none hb nu0)]
          exact s9 _ _ (mb _ _ nb hb)
      · rw [hPv] at hP
        obtain ⟨y2, y3, y4, y5, y6, rows, rvs, kvs, rfl, lr0, pre, ex, er, era, eq, eu, een, ene, b4⟩ := hP
        have ge : goD [] ds = .ok rows := by
          rw [pre, List.drop_of_length_le (by omega), goD]
        have lr := era.length
        obtain ⟨mc, ul, h1, h2⟩ := T.lim
        refine ⟨.ref x, rfl, x, C, dx, _, _, rfl, ex, T.cl, T.nR, flds_rows r q u, r, rvs, rfl, .inl (.inl (.inl er)), C, mc, .int 20, ul, rfl, h1, h2, _, _, rfl, rfl, _, rfl, ?_⟩
        by_cases hmany : rows.length ≤ 20
        · rw [decide_eq_false (by omega : ¬ (rvs.length : Int) > 20)]
          refine iteF (finO _ rows ?_ ⟨dx, r, q, u, rvs, kvs, ex, er, era, eq, eu, een⟩ b4)
          rw [show initD (.tuple ds) = endD (goD [] ds) from rfl, ge]
          show (if rows.length ≤ 20 then _ else _) = _
          rw [if_pos hmany]
        · rw [decide_eq_true (by omega : (rvs.length : Int) > 20)]
          refine iteT ⟨C, mc, .int 20, ul, rfl, h1, h2, (show 2 ≤ 1000 from by decide), mk_ih (by decide +kernel) (by decide) (by decide) fun H7 e s7 ne he => ?_⟩
          refine finE H7 e _ 20 ?_ he ?_ ?_
          · rw [show initD (.tuple ds) = endD (goD [] ds) from rfl, ge]
            show (if rows.length ≤ 20 then _ else _) = _
            rw [if_neg hmany]
          · intro b o nb hb
            exact s7 _ _ (b4 _ _ nb hb)
          · cases hz : H e with
            | none => rfl
            | some o =>
              by_cases zx : e = x
              · rw [zx, ex] at ne
                cases ne
              · rw [b4 _ _ zx hz] at ne
                cases ne
    | _ => cases hq
end
end Lw
/-! What the law is told of a hierarchy's making. -/
namespace Lw
open PySem PySem.Spec PyProof.Rows L2 Kv
theorem scNmL : FnScope ["self"] ["self"] (defScope m_names) :=
  ⟨rfl, rfl, rfl, by decide +kernel, rfl, by decide +kernel, by decide +kernel⟩
theorem place_keys (ns : List Str) : (placeKV ns).map (fun kv => kV kv.1) = ns.map V.str := by
  unfold placeKV
  rw [List.map_map]
  have : ∀ (l : List Str) (k : Nat), (l.zipIdx k).map ((fun kv : Key × V => kV kv.1) ∘ fun p => ((Sum.inr p.1 : Key), V.int p.2)) = l.map V.str := by
    intro l
    induction l with
    | nil => intro k; rfl
    | cons x r ih =>
      intro k
      rw [List.zipIdx_cons, List.map_cons, List.map_cons, ih]
      rfl
  exact this ns 0
theorem fstsL (rows : List Row2) : (fsts rows).length = rows.length := List.length_map ..
theorem get_str {xs : List Str} {i : Nat} {v : V} (hv : (xs.map V.str)[i]? = some v) : ∃ x, xs[i]? = some x ∧ v = .str x := by
  rw [List.getElem?_map] at hv
  cases hz : xs[i]? with
  | none =>
    rw [hz] at hv
    cases hv
  | some x =>
    rw [hz] at hv
    exact ⟨x, rfl, (Option.some.inj hv).symm⟩
theorem scTold : FnScope ["_law_handed", "_law_told_here", "e", "_law_others"] ["_law_handed"] (defScope sTold) :=
  ⟨rfl, rfl, rfl, by decide +kernel, rfl, by decide +kernel, by decide +kernel⟩
def toldD (dt : PyData) : PyData := match initD dt with
  | .ok rows => .tuple [.str "created", .list ((fsts rows).map PyData.str)]
  | .error e => .tuple [.str e.1, .int e.2]
theorem sh_strs {K : PySem.W.Frag} {nd : Bool} {H : Hp} : ∀ xs : List Str, ShAll K nd H (xs.map V.str) (xs.map PyData.str)
  | [] => .nil
  | x :: r => .cons (.str x) (sh_strs r)
section
variable {P : Program} {w : World} {K : PySem.W.Frag} {mg : Str → Option Value} {base : Heap}
def spNmL (C : Addr) : Sp := fun vs H Q _ => ∃ (x : Addr) (rows : List Row2), vs = [.ref x] ∧ HierAt C H x rows ∧
  ∀ D, H D = none → Q (.ref D) (upd H D (.lst ((fsts rows).map V.str)))
theorem ok_nmL {f C : Addr} {fd : FuncData} {k : Nat} (F : Fun K "names" "Hierarchy.names" m_names f fd) (T : HTxt K mg C) (mL : mg "list" = none) :
    FnOk P w K mg base CX0 (k + 1) f fd ["self"] (spNmL C) := by
  refine F.ok scNmL (fun vs H Q E h => ?_) (fun cdv A outer s H vs Q E hr h => ?_)
  · obtain ⟨x, rows, rfl, _⟩ := h
    rfl
  · obtain ⟨x, rows, rfl, ⟨dx, r, q, u, rvs, kvs, h1, h2, h3, h4, h5, h6⟩, fin⟩ := h
    refine ⟨_, pss_one (ps_ret (pe_callTy (call_list_dK rfl) (by rfl) mL (by decide +kernel) (pa_cons (pe_fld (pv 0) rfl) pa_nil))), ?_⟩
    refine ⟨.ref x, rfl, x, C, dx, _, _, rfl, h1, T.cl, T.nP, flds_places r q u, q, _, rfl, h4, fun D nD => ?_⟩
    rw [place_keys]
    exact fin D nD
def spTold (K : PySem.W.Frag) : Sp := fun vs H Q _ => ∃ (v : V) (dt : PyData) (ok : Addr → Prop), vs = [v] ∧ ShO ok H v dt ∧ (∀ a, ok a → a ≠ sysModules) ∧ (∀ a, ok a → H a ≠ none) ∧
  (∀ d ∈ itemsD dt, Fit 900 15 d) ∧ (itemsD dt).length ≤ 90 ∧ ∀ H' r, Same H H' → Sh K true H' r (toldD dt) → Q r H'
theorem ok_told {f fI fN C CI CM C1 C2 C3 : Addr} {fd fdI fdN : FuncData} {k : Nat} (F : Fun K "_law_told" "_law_told" sTold f fd) (T : HTxt K mg C) (M : Mk K C fI) (bI : Binds K fdI ["self", "classes"] [])
    (GI : FnOk P w K mg base (L2.CX P w) (k + 4) fI fdI ["self", "classes"] (spInitX C CI))
    (mN : Meth K C "names" fN) (bN : Binds K fdN ["self"] []) (GN : FnOk P w K mg base CX0 (k + 1) fN fdN ["self"] (spNmL C))
    (gI : mg "InvalidHierarchy" = some (.ref CI)) (gM : mg "MethodsError" = some (.ref CM)) (g1 : mg "InvalidName" = some (.ref C1)) (g2 : mg "InvalidSuperclasses" = some (.ref C2)) (g3 : mg "InvalidText" = some (.ref C3))
    (te : PySem.W.exmOne K (.ref CI) (.ref CI) = some true) (TC : ExcC K CI) (TX : XfC K CI) (n1 : PySem.W.findIn K (.ref CI) "problem" = some none) (n2 : PySem.W.findIn K (.ref CI) "position" = some none)
    (k1 : PySem.W.kitOne K (.ref CI) (.ref CM) = some true) (k2 : PySem.W.kitOne K (.ref CI) (.type "ValueError") = some true) (k3 : PySem.W.kitAny K (.ref CI) [.ref C1, .ref C2, .ref C3] = some false)
    (mi : mg "isinstance" = none) (mV : mg "ValueError" = none) :
    FnOk P w K mg base CX0 (k + 6) f fd ["_law_handed"] (spTold K) := by
  refine F.ok scTold (fun vs H Q E h => ?_) (fun cdv A outer s H vs Q E hr h => ?_)
  · obtain ⟨v, dt, ok, rfl, _⟩ := h
    rfl
  · obtain ⟨v, dt, ok, rfl, sho, hoks, hokn, hfit, hlen, fin⟩ := h
    have hrN := hr.mono (by omega : k + 1 ≤ k + 5)
    refine ⟨_, PSs.nox (pss_cons (ps_set (i := 1) scTold.nd rfl (.inl rfl) pe_non)
      (pss_cons (ps_try_as (i := 2) rfl rfl scTold.nd rfl rfl ⟨rfl, by decide, .inl gI⟩ takes0
          (fun W pn xe tk _ => pss_one (ps_set (i := 1) scTold.nd rfl (.inl rfl) (pe_tup (pa_cons pe_str (pa_cons
            (pe_meth0 (pe_makeS M GI hr (by rfl) T.mgC bI .nil (fun σ => passAt tk σ) (pa_cons (pv 0) pa_nil)) T.cl mN GN hrN bN .nil pass0) pa_nil)))))
          (fun a oe cls d pn hz hf => pss_one (ps_if (PW.pt (pw_and (pt_val (pe_callB (call_isED TC hz hf) (by rfl) mi (by decide +kernel) (pa_cons (pv 2) (pa_cons (pe_glob (v := .ref CM) (by rfl) gM rfl) pa_nil))))
              (pw_and1 (pt_val (pe_callB (call_isED TC hz hf) (by rfl) mi (by decide +kernel) (pa_cons (pv 2) (pa_cons (pe_bltn (v := .ty "ValueError") (by rfl) mV (by decide +kernel : bootBuiltins "ValueError" = some (.type "ValueError")) rfl) pa_nil)))))))
            (pss_cons (ps_set (i := 3) scTold.nd rfl (.inl rfl) (pe_callB (call_isEDT TC hz hf) (by rfl) mi (by decide +kernel) (pa_cons (pv 2) (pa_cons (pe_tup (pa_cons (pe_glob (v := .ref C1) (by rfl) g1 rfl) (pa_cons (pe_glob (v := .ref C2) (by rfl) g2 rfl) (pa_cons (pe_glob (v := .ref C3) (by rfl) g3 rfl) pa_nil)))) pa_nil))))
            (pss_one (ps_set (i := 1) scTold.nd rfl (.inl rfl) (pe_ifExp (pt_val (pv 3)) (pe_tup (pa_cons pe_str (pa_cons pe_int pa_nil)))
              (pe_tup (pa_cons (pe_xf TX n1 hz hf (pv 2)) (pa_cons (pe_xf TX n2 hz hf (pv 2)) pa_nil))))))) pss_nil)))
      (pss_one (ps_ret (pv 1))))), ?_⟩
    refine ⟨v, rfl, fun x dx nx ndx nex => ?_⟩
    have hs0 : Same H (upd (upd H dx (.own x)) x (.ins C dx [])) := by
      intro b o e
      rw [upd_ne (ne_of_none e nx), upd_ne (ne_of_none e ndx)]
      exact e
    have sB : ∀ {G : Hp}, But x (upd (upd H dx (.own x)) x (.ins C dx [])) G → Same H G := fun b c o e => b _ _ (ne_of_none e nx) (hs0 _ _ e)
    refine ⟨x, dx, v, dt, ok, rfl, upd_same, sho.same hs0, hoks, (fun a oa z => hokn a oa (by rw [z]; exact nx)), hfit, hlen, fun H1 rows hi hH b1 => ⟨rfl, ?_⟩, fun H1 e p i hi he b1 ne0 => ?_⟩
    · obtain ⟨dx2, r, q, u, rvs, kvs, g1', g2', g3', g4', g5', g6'⟩ := hH.ex
      refine ⟨x, dx2, _, rfl, g1', flds_no r q u (by decide +kernel) (by decide +kernel) (by decide +kernel), x, rows, rfl, hH, fun D nD => ?_⟩
      refine ⟨(by decide : 2 ≤ sizeLine), fun t nt => ?_⟩
      have sD := same_new (o := .lst ((fsts rows).map V.str)) nD
      have st := same_new (o := .tup [.str "created", .ref D]) nt
      refine ⟨.ref t, rfl, fin _ _ ((sB b1).trans (sD.trans st)) ?_⟩
      have e : toldD dt = .tuple [.str "created", .list ((fsts rows).map PyData.str)] := by
        unfold toldD
        rw [hi]
      rw [e]
      exact .tup (.inl (.inl upd_same)) (.cons (.str _) (.cons (.lst (.inl (.inl (st _ _ upd_same))) (fun z => nomatch z) (sh_strs _)) .nil))
    · refine ⟨true, te, fun _ a na => ?_, fun z => nomatch z⟩
      have l1 : (ihF p i).lookup ("problem" : Str) = some (.str p) := by
        unfold ihF
        rw [lookup_put, if_neg (by decide +kernel), lookup_put, if_pos rfl]
      have l2 : (ihF p i).lookup ("position" : Str) = some (.int i) := by
        unfold ihF
        rw [lookup_put, if_pos rfl]
      refine ⟨.ref a, rfl, .ref CM, .ref CM, true, e, ihF p i, rfl, rfl, rfl, he, (fun u h => h), k1, _, rfl, iteT ?_⟩
      refine ⟨.ref a, rfl, .ty "ValueError", .type "ValueError", true, e, ihF p i, rfl, rfl, rfl, he, (fun u h => h), k2, _, rfl, iteT ?_⟩
      refine ⟨.ref a, rfl, (by decide : 3 ≤ sizeLine), fun tp ntp => ?_⟩
      have stp := same_new (o := .tup [.ref C1, .ref C2, .ref C3]) ntp
      refine ⟨tp, [.ref C1, .ref C2, .ref C3], [.ref C1, .ref C2, .ref C3], false, e, ihF p i, rfl, rfl, rfl, stp _ _ he, upd_same, .cons (fun z h => h) (.cons (fun z h => h) (.cons (fun z h => h) .nil)), k3, ?_⟩
      refine ⟨.bl false, rfl, false, rfl, iteF ?_⟩
      refine ⟨.ref a, rfl, rfl, rfl, e, ihF p i, .str p, rfl, stp _ _ he, l1, .ref a, rfl, rfl, rfl, e, ihF p i, .int i, rfl, stp _ _ he, l2, (by decide : 2 ≤ sizeLine), fun t nt => ?_⟩
      have st := same_new (o := .tup [.str p, .int i]) nt
      refine ⟨.ref t, rfl, fin _ _ ((sB b1).trans (stp.trans st)) ?_⟩
      have e : toldD dt = .tuple [.str p, .int i] := by
        unfold toldD
        rw [hi]
      rw [e]
      exact .tup (.inl (.inl upd_same)) (.cons (.str _) (.cons (.int _) .nil))
end
end Lw
/-! What the law itself says of rows. -/
namespace Lw
open PySem PySem.Spec PyProof.Rows L2 Kv
section
variable {X : Cx}
def rEqNil (K : PySem.W.Frag) : R2 := fun x y H Q => ∃ (a b : Addr) (xs : List V), x = .ref a ∧ y = .ref b ∧ SqL K H a xs ∧ SqL K H b [] ∧ Q (.bl (decide (xs = []))) H
theorem op_eqNil (hu : X.A.units + 1 < cLine) : OpR X (compareOp .Eq) (rEqNil X.K) := by
  intro pins s σ H x y v u Q I rx ry h
  obtain ⟨a, b, xs, rfl, rfl, ha, hb, q⟩ := h
  cases rx
  cases ry
  obtain ⟨its, rv, tx, _⟩ := I.list ha
  obtain ⟨jts, rw2, ty, _⟩ := I.list hb
  cases rw2
  by_cases e : xs = []
  · subst e
    cases rv
    refine SeqAt.RcAt.lists (e := fun _ => true) tx.isList ty.isList rfl (by omega) (fun j h1 _ => absurd h1 (by simp)) _ _ _ _ ⟨.bl true, H, I, rfl, ?_⟩
    rw [decide_eq_true rfl] at q
    exact q
  · have hne : its.length ≠ 0 := by
      rw [← rv.length]
      intro z
      exact e (List.eq_nil_of_length_eq_zero z)
    refine SeqAt.RcAt.lists_lengths tx.isList ty.isList ?_ (by omega) _ _ _ _ ⟨.bl false, H, I, rfl, ?_⟩
    · simpa using hne
    · rw [decide_eq_false e] at q
      exact q
end
theorem scLGood : FnScope ["_law_thing", "_law_sign"] ["_law_thing"] (defScope sLGood) :=
  ⟨rfl, rfl, rfl, by decide +kernel, rfl, by decide +kernel, by decide +kernel⟩
theorem scLProb : FnScope ["_law_row", "_law_labels", "_law_at", "_law_one"] ["_law_row", "_law_labels"] (defScope sLProb) :=
  ⟨rfl, rfl, rfl, by decide +kernel, rfl, by decide +kernel, by decide +kernel⟩
section
variable {P : Program} {w : World} {K : PySem.W.Frag} {mg : Str → Option Value} {base : Heap}
theorem ok_lgood {f : Addr} {fd : FuncData} {k : Nat} (F : Fun K "_law_is_good" "_law_is_good" sLGood f fd)
    (mi : mg "isinstance" = none) (ms : mg "str" = none) (ml : mg "len" = none) :
    FnOk P w K mg base CX0 (k + 1) f fd ["_law_thing"] (spName K) := by
  refine F.ok scLGood (fun vs H Q E h => ?_) (fun cdv A outer s H vs Q E hr h => ?_)
  · obtain ⟨a, _, _, rfl, _⟩ := h
    rfl
  · obtain ⟨v, nd, d, rfl, sh, hv, q⟩ := h
    have hu := hu_of hr
    refine ⟨_, pss_cons (ps_if (PW.pt (pw_or (pt_not (pt_val (pe_callB call_isi (by rfl) mi (by decide +kernel) (pa_cons (pv 0)
          (pa_cons (pe_bltn (v := .ty "str") (by rfl) ms (by decide +kernel : bootBuiltins "str" = some (.type "str")) rfl) pa_nil)))))
          (pw_or1 (pt_not (pt_chain op_lt op_lt pe_int (pe_callB call_len_str (by rfl) ml PySem.boot_len (pa_cons (pv 0) pa_nil)) pe_int))))) (pss_one (ps_ret pe_bl)) pss_nil)
      (pss_one (ps_ret (pe_cmpR (op_eqNil hu)
          (pe_lc (own := [("_law_sign", 1)]) (g := gName 1) (te := tVar 1) rfl scLGood.nd (pi_str (pv 0))
            (blkOk_by (own := [("_law_sign", 1)]) (N := ["_law_thing", "_law_sign"]) (sc := defScope sLGood) (by decide +kernel))
            (fun _ _ _ _ _ => pg_name (i := 1) scLGood.nd rfl (Or.inl rfl)) (fun _ _ _ _ _ => pts_one (pt_cmpR op_notIn_sign (pv 1) pe_str rfl))
            (fun _ _ _ _ _ => pv 1)) (pe_lst pa_nil) (nomark _)))), ?_⟩
    obtain ⟨T, ty, hT⟩ := sh.ty
    rcases hT with ⟨x, rfl, rfl⟩ | ⟨hne, hT⟩
    · have hx := hv x rfl
      have hxl : x.length ≤ sizeLine := szle hx
      refine ⟨.str x, rfl, .str x, .ty "str", _, _, true, rfl, .ty "str", ty, kit_ty (by decide +kernel), true, rfl, iteF ?_⟩
      refine ⟨.str x, rfl, x, rfl, hxl, _, _, rfl, rfl, _, rfl, ite2 (fun e => ?_) (fun e => ?_)⟩
      · have e1 : (0 : Int) < x.length := of_decide_eq_true e
        refine ⟨_, _, rfl, rfl, _, rfl, ?_⟩
        by_cases e2 : (x.length : Int) < 9
        · rw [decide_eq_true e2]
          refine iteF ?_
          refine ⟨.str x, rfl, x, rfl, fun D nD => ?_⟩
          refine lc_it walk_str (fun i H3 => H3 = upd H D (.lst (((x.cps.toList.take i).filter fun c => !inAz c).map fun c => .str ⟨#[c]⟩))) ?_ (fun _ _ _ _ => trivial) (fun i y H3 H4 hi hP hY => ?_) (fun H3 hP => ?_)
          · rfl
          · obtain ⟨rfl, c, hc, rfl⟩ := hY
            subst hP
            have hc2 : x.cps.toList[i]? = some c := by
              rw [Array.getElem?_toList]
              exact hc
            refine ⟨rfl, .str ⟨#[c]⟩, rfl, c, _, rfl, rfl, _, rfl, ?_⟩
            show if (!inAz c) = true then _ else _
            cases hz : inAz c with
            | false =>
              refine iteT ⟨.str ⟨#[c]⟩, rfl, _, upd_same, ?_, ?_⟩
              · rw [List.length_map]
                have := List.length_filter_le (fun c => !inAz c) (x.cps.toList.take i)
                rw [List.length_take] at this
                exact sz1 (by
                  have : i < x.length := hi
                  omega)
              · rw [upd_upd, List.take_add_one, hc2, List.filter_append, List.map_append]
                show _ = upd _ _ (.lst (_ ++ (List.filter (fun c => !inAz c) [c]).map _))
                rw [List.filter_cons_of_pos (by rw [hz]; rfl)]
                rfl
            | true =>
              refine iteF ?_
              rw [List.take_add_one, hc2, List.filter_append, List.map_append]
              show _ = upd _ _ (.lst (_ ++ (List.filter (fun c => !inAz c) [c]).map _))
              rw [List.filter_cons_of_neg (by rw [hz]; decide)]
              show _ = upd _ _ (.lst (_ ++ []))
              rw [List.append_nil]
          · subst hP
            have sD := same_new (o := .lst (((x.cps.toList.take x.cps.size).filter fun c => !inAz c).map fun c => V.str ⟨#[c]⟩)) nD
            refine ⟨(by decide : 0 ≤ sizeLine), fun t nt => ?_⟩
            have st := same_new (o := .lst []) nt
            refine ⟨D, t, _, rfl, rfl, .inl (.inl (st _ _ upd_same)), .inl (.inl upd_same), ?_⟩
            have e4 : x.cps.toList.take x.cps.size = x.cps.toList := List.take_of_length_le (by rw [Array.length_toList]; exact Nat.le_refl _)
            have e5 : decide ((((x.cps.toList.take x.cps.size).filter fun c => !inAz c).map fun c => V.str ⟨#[c]⟩) = []) = nameV (.str x) := by
              rw [e4]
              show _ = ((decide (1 ≤ x.length) && decide (x.length ≤ 8)) && x.cps.toList.all inAz)
              rw [decide_eq_true (by omega : 1 ≤ x.length), decide_eq_true (by omega : x.length ≤ 8)]
              show _ = x.cps.toList.all inAz
              cases ha : x.cps.toList.all inAz with
              | true =>
                rw [decide_eq_true_eq, List.map_eq_nil_iff, List.filter_eq_nil_iff]
                intro c hc
                rw [List.all_eq_true.mp ha c hc]
                decide
              | false =>
                rw [decide_eq_false_iff_not, List.map_eq_nil_iff, List.filter_eq_nil_iff]
                intro hn
                have : x.cps.toList.all inAz = true := List.all_eq_true.mpr fun c hc => by
                  have := hn c hc
                  cases hz : inAz c with
                  | true => rfl
                  | false =>
                    rw [hz] at this
                    exact absurd rfl this
                rw [ha] at this
                cases this
            rw [e5]
            exact q _ (sD.trans st)
        · rw [decide_eq_false e2]
          have e5 : nameV (.str x) = false := by
            show ((decide (1 ≤ x.length) && decide (x.length ≤ 8)) && x.cps.toList.all inAz) = false
            rw [decide_eq_false (by omega : ¬ x.length ≤ 8), Bool.and_false, Bool.false_and]
          have := q H (Same.refl _)
          rw [e5] at this
          exact iteT this
      · have e1 : ¬ (0 : Int) < x.length := fun z => e (decide_eq_true z)
        have e5 : nameV (.str x) = false := by
          show ((decide (1 ≤ x.length) && decide (x.length ≤ 8)) && x.cps.toList.all inAz) = false
          rw [decide_eq_false (by omega : ¬ 1 ≤ x.length), Bool.false_and, Bool.false_and]
        have := q H (Same.refl _)
        rw [e5] at this
        exact ⟨false, rfl, iteT this⟩
    · have hk : kitB T "str" = some false := by
        rcases hT with rfl | rfl | rfl | rfl | rfl | rfl <;> decide +kernel
      have := q H (Same.refl _)
      rw [nameV_not hne] at this
      exact ⟨v, rfl, v, .ty "str", _, _, false, rfl, .ty "str", ty, kit_ty hk, false, rfl, iteT this⟩
theorem ShAll.take {nd : Bool} {H : Hp} : ∀ {vs : List V} {ds : List PyData} (i : Nat), ShAll K nd H vs ds → ShAll K nd H (vs.take i) (ds.take i)
  | _, _, 0, _ => by
    rw [List.take_zero, List.take_zero]
    exact .nil
  | _, _, i + 1, .nil => by
    rw [List.take_nil, List.take_nil]
    exact .nil
  | _, _, i + 1, .cons a b => by
    rw [List.take_succ_cons, List.take_succ_cons]
    exact .cons a (ShAll.take i b)
def spLProb (K : PySem.W.Frag) : Sp := fun vs H Q _ => ∃ (v : V) (nd : Bool) (dt : PyData) (b : Addr) (ns : List Str), vs = [v, .ref b] ∧ Sh K nd H v dt ∧ Fit 900 20 dt ∧ SqL K H b (ns.map V.str) ∧
  ∀ H', Same H H' → Q (optV (probD ns dt)) H'
theorem ok_lprob {f fG : Addr} {fd fdG : FuncData} {k : Nat} (F : Fun K "_law_row_problem" "_law_row_problem" sLProb f fd)
    (FG : Fun K "_law_is_good" "_law_is_good" sLGood fG fdG) (bG : Binds K fdG ["_law_thing"] []) (gG : mg "_law_is_good" = some (.ref fG))
    (GG : FnOk P w K mg base CX0 (k + 1) fG fdG ["_law_thing"] (spName K))
    (mi : mg "isinstance" = none) (mT : mg "tuple" = none) (ms : mg "str" = none) (ml : mg "len" = none) (me : mg "enumerate" = none) :
    FnOk P w K mg base CX0 (k + 2) f fd ["_law_row", "_law_labels"] (spLProb K) := by
  refine F.ok scLProb (fun vs H Q E h => ?_) (fun cdv A outer s H vs Q E hr h => ?_)
  · obtain ⟨v, nd, dt, b, ns, rfl, _⟩ := h
    rfl
  · obtain ⟨v, nd, dt, b, ns, rfl, sh, hf, hb, q⟩ := h
    refine ⟨_, pss_cons (ps_if (PW.pt (pw_or (pt_not (pt_val (pe_callB call_isi (by rfl) mi (by decide +kernel) (pa_cons (pv 0)
          (pa_cons (pe_bltn (v := .ty "tuple") (by rfl) mT (by decide +kernel : bootBuiltins "tuple" = some (.type "tuple")) rfl) pa_nil)))))
          (pw_or1 (pt_cmpR op_ne (pe_callB call_len_seq (by rfl) ml PySem.boot_len (pa_cons (pv 0) pa_nil)) pe_int (nomark _))))) (pss_one (ps_ret pe_str)) pss_nil)
      (pss_cons (ps_if (pt_not (pt_val (pe_call GG hr (by rfl) gG FG.kp bG .nil pass0 (pa_cons (pe_ix ix_tup (pv 0) pe_int (fun _ _ => rfl)) pa_nil)))) (pss_one (ps_ret pe_str)) pss_nil)
      (pss_cons (ps_if (pt_cmpR op_in_seq (pe_ix ix_tup (pv 0) pe_int (fun _ _ => rfl)) (pv 1) (by rfl)) (pss_one (ps_ret pe_str)) pss_nil)
      (pss_cons (ps_if (pt_not (pt_val (pe_callB call_isi (by rfl) mi (by decide +kernel) (pa_cons (pe_ix ix_tup (pv 0) pe_int (fun _ _ => rfl))
          (pa_cons (pe_bltn (v := .ty "tuple") (by rfl) mT (by decide +kernel : bootBuiltins "tuple" = some (.type "tuple")) rfl) pa_nil))))) (pss_one (ps_ret pe_str)) pss_nil)
      (pss_cons (ps_for PassesOwn.never rfl (pi_enumS (by rfl) me (pa_cons (pe_ix ix_tup (pv 0) pe_int (fun _ _ => rfl)) pa_nil))
          (pg_tup rfl (pgs_cons (pg_name (i := 2) scLProb.nd rfl (.inl rfl)) (pgs_cons (pg_name (i := 3) scLProb.nd rfl (.inl rfl)) pgs_nil)))
        (pss_one (ps_if (PW.pt (pw_or (pt_not (pt_val (pe_callB call_isi (by rfl) mi (by decide +kernel) (pa_cons (pv 3)
            (pa_cons (pe_bltn (v := .ty "str") (by rfl) ms (by decide +kernel : bootBuiltins "str" = some (.type "str")) rfl) pa_nil)))))
          (pw_or (pt_cmpR op_notIn_seq (pv 3) (pv 1) (by rfl))
          (pw_or1 (pt_cmpR op_in_seq (pv 3) (pe_slice sl_tup (pe_ix ix_tup (pv 0) pe_int (fun _ _ => rfl)) po_none (po_some (pv 2))) (by rfl)))))) (pss_one (ps_ret pe_str)) pss_nil)))
      (pss_one (ps_ret pe_non)))))), ?_⟩
    refine ⟨v, rfl, v, .ty "tuple", _, _, isTup dt, rfl, .ty "tuple", sh.tyIs, kit_ty (kit_tup dt), _, rfl, ?_⟩
    cases sh with
    | non => exact iteT (q H (Same.refl _))
    | bl b => exact iteT (q H (Same.refl _))
    | int i => exact iteT (q H (Same.refl _))
    | str y => exact iteT (q H (Same.refl _))
    | lst h1 h2 h3 => exact iteT (q H (Same.refl _))
    | dict h0 h1 h2 h3 => exact iteT (q H (Same.refl _))
    | @tup a xs ds h1 h2 =>
      have hl := h2.length
      have pe : probD ns (.tuple ds) = probL ns ds := rfl
      rw [pe] at q
      refine iteF ?_
      refine ⟨.ref a, rfl, a, xs, rfl, .inr h1, rfl, _, rfl, ?_⟩
      by_cases e2 : ds.length = 2
      · have e3 : decide (V.int ((xs.length : Nat) : Int) = V.int 2) = true := by
          rw [decide_eq_true_eq, hl, e2]
          rfl
        rw [e3]
        refine iteF ?_
        obtain ⟨x0, x1, d0, d1, rfl, rfl, sh0, sh1⟩ : ∃ x0 x1 d0 d1, xs = [x0, x1] ∧ ds = [d0, d1] ∧ Sh K nd H x0 d0 ∧ Sh K nd H x1 d1 := by
          cases h2 with
          | nil => exact absurd e2 (by simp)
          | cons a1 t1 =>
            cases t1 with
            | nil => exact absurd e2 (by simp)
            | cons a2 t2 =>
              cases t2 with
              | nil => exact ⟨_, _, _, _, rfl, rfl, a1, a2⟩
              | cons _ _ => exact absurd e2 (by simp)
        have f0 : Fit 900 20 d0 := fit_all (i := 0) (fit_tup hf) rfl
        have f1 : Fit 900 20 d1 := fit_all (i := 1) (fit_tup hf) rfl
        have pl : probL ns [d0, d1] = (if wordD d0 = false then some ("name" : Str) else if inD ns d0 = true then some ("duplicate" : Str) else if areD ns d1 = false then some ("superclasses" : Str) else none) := rfl
        rw [pl] at q
        refine ⟨.ref a, rfl, a, _, 0, x0, rfl, rfl, h1, atI_nat (j := 0) rfl, x0, nd, d0, rfl, sh0, fit_str sh0 f0, fun H1 s1 => ⟨_, rfl, ?_⟩⟩
        rw [word_name sh0]
        cases c0 : wordD d0 with
        | false =>
          rw [c0, if_pos rfl] at q
          exact iteT (q _ s1)
        | true =>
          rw [c0, if_neg (by decide)] at q
          refine iteF ?_
          cases sh0 with
          | str n =>
            refine ⟨.ref a, rfl, a, _, 0, .str n, rfl, rfl, sqT_same h1 s1, atI_nat (j := 0) rfl, .ref b, rfl, b, _, rfl, .inl (s1.seq hb), rfl, flats ns, _, rfl, ?_⟩
            rw [inV_strs]
            have ei : inD ns (.str n) = decide (n ∈ ns) := rfl
            rw [ei] at q
            cases c1 : decide (n ∈ ns) with
            | true =>
              rw [c1, if_pos rfl] at q
              exact iteT (q _ s1)
            | false =>
              rw [c1, if_neg (by decide)] at q
              refine iteF ?_
              have sh1' := sh1.same s1
              refine ⟨.ref a, rfl, a, _, 1, x1, rfl, rfl, sqT_same h1 s1, atI_nat (j := 1) rfl, x1, .ty "tuple", _, _, isTup d1, rfl, .ty "tuple", sh1'.tyIs, kit_ty (kit_tup d1), _, rfl, ?_⟩
              cases sh1 with
              | non => exact iteT (q _ s1)
              | bl b => exact iteT (q _ s1)
              | int i => exact iteT (q _ s1)
              | str y => exact iteT (q _ s1)
              | lst k1 k2 k3 => exact iteT (q _ s1)
              | dict k0 k1 k2 k3 => exact iteT (q _ s1)
              | @tup c ys es k1 k2 =>
                refine iteF ?_
                have kl := k2.length
                have el : es.length ≤ 900 := fit_len (fit_tup f1)
                have bad : ¬ (es.all (inD ns) = true ∧ (es.map strOf).Nodup) → ∀ H', Same H H' → Q (.str "superclasses") H' := by
                  intro z H' s'
                  have e : areD ns (.tuple es) = false := by
                    show (es.all (inD ns) && decide ((es.map strOf).Nodup)) = false
                    cases hq : es.all (inD ns) with
                    | false => rfl
                    | true => exact decide_eq_false fun y => z ⟨hq, y⟩
                  have := q H' s'
                  rw [e, if_pos rfl] at this
                  exact this
                refine ⟨.ref a, rfl, a, _, 1, .ref c, rfl, rfl, sqT_same h1 s1, atI_nat (j := 1) rfl, .inr ⟨c, ys, rfl, sqT_same k1 s1, ?_⟩⟩
                refine for_it (walk_enumT (xs := ys)) (fun j σ H4 => ∃ y2 y3, σ = [some (.ref a), some (.ref b), y2, y3] ∧ Same H H4 ∧ (es.take j).all (inD ns) = true ∧ ((es.take j).map strOf).Nodup)
                  ⟨none, none, rfl, s1, by rw [List.take_zero]; rfl, by rw [List.take_zero]; exact List.nodup_nil⟩ (fun j σ H4 _ hP => ?_) (fun j v σ H4 H5 hj hP hY => ?_) (fun σ H4 hP => ?_)
                · obtain ⟨_, _, _, s4, _⟩ := hP
                  exact sqT_same k1 s4
                · obtain ⟨y2, y3, rfl, s4, p1, p2⟩ := hP
                  obtain ⟨T5, a5, v5, rfl, nT5, rfl, ea5, ev5⟩ := hY
                  cases Option.some.inj ea5
                  obtain ⟨dj, hdj, shj⟩ := shGet k2 ev5
                  have jl : j < es.length := by omega
                  have s5 := same_new (o := .tup [.int (j : Nat), v5]) nT5
                  have s05 := s4.trans s5
                  have shj5 := shj.same s05
                  refine ⟨T5, [.int (j : Nat), v5], rfl, .inl (.inl upd_same), rfl, _, _, rfl, _, _, rfl, rfl, ?_⟩
                  refine ⟨v5, rfl, v5, .ty "str", _, _, isStr dj, rfl, .ty "str", shj5.tyIs, kit_ty (kit_str dj), _, rfl, ?_⟩
                  have notin : inD ns dj = false → ¬ (es.all (inD ns) = true ∧ (es.map strOf).Nodup) := by
                    intro z y
                    have := List.all_eq_true.mp y.1 dj (List.mem_of_getElem? hdj)
                    rw [z] at this
                    cases this
                  cases shj with
                  | str y =>
                    refine iteF ?_
                    refine ⟨.str y, rfl, .ref b, rfl, b, _, rfl, .inl (s05.seq hb), rfl, flats ns, _, rfl, ?_⟩
                    show if (!inV (.str y) (ns.map V.str)) = true then _ else _
                    rw [inV_strs]
                    cases c2 : decide (y ∈ ns) with
                    | false => exact iteT (bad (notin c2) _ s05)
                    | true =>
                      refine iteF ?_
                      refine ⟨.str y, rfl, .ref a, rfl, a, _, 1, .ref c, rfl, rfl, sqT_same h1 s05, atI_nat (j := 1) rfl, .int (j : Nat), rfl, _, rfl, c, ys, rfl, sqT_same k1 s05, ?_, fun p np => ?_⟩
                      · rw [HT.sIx_nat]
                        intro z
                        have := z.2
                        omega
                      · have cutE : cutV ys none (some (j : Int)) = ys.take j := cut_take
                        rw [cutE]
                        have sp := same_new (o := .tup (ys.take j)) np
                        have yst : ys.take j = ((es.take j).map strOf).map V.str := strs_of (ShAll.take j k2) p1
                        rw [yst] at sp ⊢
                        refine ⟨p, _, rfl, .inr (.inl (.inl upd_same)), rfl, flats _, _, rfl, ?_⟩
                        rw [inV_strs]
                        have tk1 : es.take (j + 1) = es.take j ++ [.str y] := by
                          rw [List.take_add_one, hdj]
                          rfl
                        cases c3 : decide (y ∈ (es.take j).map strOf) with
                        | true =>
                          refine iteT (bad (fun z => ?_) _ (s05.trans sp))
                          have hd : ((es.take (j + 1)).map strOf).Nodup := by
                            rw [List.map_take]
                            exact z.2.sublist (List.take_sublist _ _)
                          rw [tk1, List.map_append] at hd
                          have := (List.nodup_append.mp hd).2.2 y (of_decide_eq_true c3) y (List.mem_singleton.mpr rfl)
                          exact this rfl
                        | false =>
                          refine iteF ⟨_, _, rfl, s05.trans sp, ?_, ?_⟩
                          · rw [tk1, List.all_append, p1]
                            show (true && (inD ns (.str y) && true)) = true
                            rw [show inD ns (.str y) = true from c2]
                            rfl
                          · rw [tk1, List.map_append]
                            refine List.nodup_append.mpr ⟨p2, List.pairwise_singleton _ _, fun z hz z2 hz2 => ?_⟩
                            rw [List.mem_singleton.mp hz2]
                            intro e
                            rw [e] at hz
                            exact absurd (decide_eq_true hz) (by rw [show strOf (.str y) = y from rfl, c3]; decide)
                  | non => exact iteT (bad (notin rfl) _ s05)
                  | bl b => exact iteT (bad (notin rfl) _ s05)
                  | int i => exact iteT (bad (notin rfl) _ s05)
                  | lst g1 g2 g3 => exact iteT (bad (notin rfl) _ s05)
                  | tup g1 g2 => exact iteT (bad (notin rfl) _ s05)
                  | dict g0 g1 g2 g3 => exact iteT (bad (notin rfl) _ s05)
                · obtain ⟨y2, y3, rfl, s4, p1, p2⟩ := hP
                  have tk : es.take ys.length = es := List.take_of_length_le (by omega)
                  rw [tk] at p1 p2
                  have e : areD ns (.tuple es) = true := by
                    show (es.all (inD ns) && decide ((es.map strOf).Nodup)) = true
                    rw [p1, decide_eq_true p2]
                    rfl
                  have := q _ s4
                  rw [e, if_neg (by decide)] at this
                  exact this
          | _ => cases c0
      · have e3 : decide (V.int ((xs.length : Nat) : Int) = V.int 2) = false := by
          rw [decide_eq_false_iff_not, hl]
          intro z
          injection z with z
          omega
        rw [e3]
        have pl : probL ns ds = some ("class" : Str) := by
          match ds, e2 with
          | [], _ => rfl
          | [_], _ => rfl
          | _ :: _ :: _ :: _, _ => rfl
        rw [pl] at q
        exact iteT (q _ (Same.refl _))
end
end Lw
namespace Lw
open PySem PySem.Spec PyProof.Rows L2 Kv
theorem scLDue : FnScope ["_law_handed", "_law_labels", "_law_at", "_law_row", "_law_word"] ["_law_handed"] (defScope sLDue) :=
  ⟨rfl, rfl, rfl, by decide +kernel, rfl, by decide +kernel, by decide +kernel⟩
theorem scRight : FnScope ["_law_handed", "_law_shown"] ["_law_handed"] (defScope sRight) :=
  ⟨rfl, rfl, rfl, by decide +kernel, rfl, by decide +kernel, by decide +kernel⟩
section
variable {P : Program} {w : World} {K : PySem.W.Frag} {mg : Str → Option Value} {base : Heap}
def spLDue (K : PySem.W.Frag) : Sp := fun vs H Q _ => ∃ (v : V) (dt : PyData) (nd : Bool), vs = [v] ∧ Sh K nd H v dt ∧
  (∀ d ∈ itemsD dt, Fit 900 15 d) ∧ (itemsD dt).length ≤ 90 ∧ ∀ H' r, Same H H' → Sh K true H' r (toldD dt) → Q r H'
theorem ok_ldue {f fP : Addr} {fd fdP : FuncData} {k : Nat} (F : Fun K "_law_due" "_law_due" sLDue f fd)
    (FP : Fun K "_law_row_problem" "_law_row_problem" sLProb fP fdP) (bP : Binds K fdP ["_law_row", "_law_labels"] []) (gP : mg "_law_row_problem" = some (.ref fP))
    (GP : FnOk P w K mg base CX0 (k + 2) fP fdP ["_law_row", "_law_labels"] (spLProb K))
    (mi : mg "isinstance" = none) (mT : mg "tuple" = none) (mL : mg "list" = none) (ml : mg "len" = none) (me : mg "enumerate" = none) :
    FnOk P w K mg base CX0 (k + 3) f fd ["_law_handed"] (spLDue K) := by
  refine F.ok scLDue (fun vs H Q E h => ?_) (fun cdv A outer s H vs Q E hr h => ?_)
  · obtain ⟨v, dt, nd, rfl, _⟩ := h
    rfl
  · obtain ⟨v, dt, nd, rfl, sh, hfit, hlen, fin⟩ := h
    refine ⟨_, pss_cons (ps_if (pt_not (pt_val (pe_callB call_isiT (by rfl) mi (by decide +kernel) (pa_cons (pv 0)
          (pa_cons (pe_tup (pa_cons (pe_bltn (v := .ty "list") (by rfl) mL (by decide +kernel : bootBuiltins "list" = some (.type "list")) rfl)
            (pa_cons (pe_bltn (v := .ty "tuple") (by rfl) mT (by decide +kernel : bootBuiltins "tuple" = some (.type "tuple")) rfl) pa_nil))) pa_nil)))))
          (pss_one (ps_ret (pe_tup (pa_cons pe_str (pa_cons pe_int pa_nil))))) pss_nil)
      (pss_cons (ps_set (i := 1) scLDue.nd rfl (.inl rfl) (pe_lst pa_nil))
      (pss_cons (ps_for PassesOwn.never rfl (pi_enumS (by rfl) me (pa_cons (pv 0) pa_nil))
          (pg_tup rfl (pgs_cons (pg_name (i := 2) scLDue.nd rfl (.inl rfl)) (pgs_cons (pg_name (i := 3) scLDue.nd rfl (.inl rfl)) pgs_nil)))
        (pss_cons (ps_set (i := 4) scLDue.nd rfl (.inl rfl) (pe_call GP hr (by rfl) gP FP.kp bP .nil pass0 (pa_cons (pv 3) (pa_cons (pv 1) pa_nil))))
        (pss_cons (ps_if (pt_cmpR op_notN (pv 4) pe_non (nomark _)) (pss_one (ps_ret (pe_tup (pa_cons (pv 4) (pa_cons (pv 2) pa_nil))))) pss_nil)
        (pss_one (ps_expr (pe_bm PySem.F.plainAttrs_list PySem.F.slot_list_append PySem.F.type_list_append mt_append (pv 1) (pa_cons (pe_ix ix_tup (pv 3) pe_int (fun _ _ => rfl)) pa_nil)))))))
      (pss_one (ps_ret (pe_ifExp (pt_cmpR op_le (pe_callB call_len_seq (by rfl) ml PySem.boot_len (pa_cons (pv 1) pa_nil)) pe_int (nomark _))
        (pe_tup (pa_cons pe_str (pa_cons (pv 1) pa_nil))) (pe_tup (pa_cons pe_str (pa_cons pe_int pa_nil)))))))), ?_⟩
    refine ⟨v, rfl, (by decide : 2 ≤ sizeLine), fun tp ntp => ?_⟩
    have s0 := same_new (o := .tup [.ty "list", .ty "tuple"]) ntp
    refine ⟨v, tp, [.ty "list", .ty "tuple"], _, [.type "list", .type "tuple"], _, rfl, upd_same, .cons (.ty _) (.cons (.ty _) .nil), (sh.same s0).tyIs, kit_seq dt, _, rfl, ?_⟩
    generalize upd H tp (.tup [.ty "list", .ty "tuple"]) = H0 at s0 ⊢
    by_cases hq : isSeq dt = true
    case neg =>
      have hq2 : isSeq dt = false := Bool.eq_false_iff.mpr hq
      rw [hq2]
      refine iteT ⟨(by decide : 2 ≤ sizeLine), fun t nt => ?_⟩
      have st := same_new (o := .tup [.str "list", .int 0]) nt
      refine fin _ _ (s0.trans st) ?_
      have e : toldD dt = .tuple [.str "list", .int 0] := by
        cases dt with
        | list ds => cases hq2
        | tuple ds => cases hq2
        | _ => rfl
      rw [e]
      exact .tup (.inl (.inl upd_same)) (.cons (.str _) (.cons (.int _) .nil))
    rw [hq]
    refine iteF ?_
    refine ⟨(by decide : 0 ≤ sizeLine), fun L nL => ?_⟩
    have sL := same_new (o := .lst []) nL
    have eL : (upd H0 L (.lst [])) L = some (.lst []) := upd_same
    generalize upd H0 L (.lst []) = G at sL eL ⊢
    have sG := s0.trans sL
    have nL0 : H L = none := s0.free nL
    obtain ⟨ds, hdsE⟩ : ∃ ds, ds = itemsD dt := ⟨_, rfl⟩
    have inE : initD dt = endD (goD [] ds) := by
      rw [hdsE]
      cases dt with
      | list ds => rfl
      | tuple ds => rfl
      | _ => cases hq
    rw [← hdsE] at hfit hlen
    obtain ⟨Pv, hPv⟩ : ∃ Pv : Nat → L2.St → Hp → Prop, Pv = fun i σ H4 => ∃ (y2 y3 y4 : Option V) (rows : List Row2), σ = [some v, some (.ref L), y2, y3, y4] ∧ rows.length = i ∧ goD [] ds = goD rows (ds.drop i) ∧
        H4 L = some (.lst ((fsts rows).map V.str)) ∧ Same H H4 := ⟨_, rfl⟩
    have start : Pv 0 [some v, some (.ref L), none, none, none] G := by
      rw [hPv]
      exact ⟨none, none, none, [], rfl, rfl, rfl, eL, sG⟩
    have seqs : ∃ (c : Addr) (us : List V), v = .ref c ∧ (SqL K H c us ∨ SqT K H c us) ∧ ShAll K nd H us ds ∧ (isTup dt = false → SqL K H c us) ∧ (isTup dt = true → SqT K H c us) := by
      cases sh with
      | lst h1 h2 h3 => exact ⟨_, _, rfl, .inl h1, by rw [hdsE]; exact h3, fun _ => h1, fun z => nomatch z⟩
      | tup h1 h2 => exact ⟨_, _, rfl, .inr h1, by rw [hdsE]; exact h2, (fun z => nomatch z), (fun _ => h1)⟩
      | _ => cases hq
    obtain ⟨c, us, rfl, _, hds, hcL, hcT⟩ := seqs
    have ld := hds.length
    refine ⟨.ref c, rfl, ?_⟩
    cases htp : isTup dt with
    | false =>
      have hc := hcL htp
      refine .inl ⟨c, us, rfl, sG.seq hc, ?_⟩
      refine for_it (walk_enum (xs := us)) Pv start (fun i σ H4 _ hP => ?_) (fun i v σ H4 H5 hi hP hY => ?_) (fun σ H4 hP => ?_)
      · rw [hPv] at hP
        obtain ⟨_, _, _, _, _, _, _, _, s4⟩ := hP
        exact s4.seq hc
      · rw [hPv] at hP
        obtain ⟨y2, y3, y4, rows, rfl, lr0, pre, eL4, s4⟩ := hP
        obtain ⟨T5, a5, v5, rfl, nT5, rfl, ea5, ev5⟩ := hY
        cases Option.some.inj ea5
        obtain ⟨dt5, hdt5, sh5⟩ := shGet hds ev5
        have fi5 : Fit 900 15 dt5 := hfit _ (List.mem_of_getElem? hdt5)
        have il : i < us.length := hi
        have il2 : i < ds.length := by omega
        have s5 := same_new (o := .tup [.int (i : Nat), v5]) nT5
        have s05 := s4.trans s5
        have eL5 := s5 _ _ eL4
        refine ⟨T5, [.int (i : Nat), v5], rfl, .inl (.inl upd_same), rfl, _, _, rfl, _, _, rfl, rfl, ?_⟩
        refine ⟨v5, rfl, .ref L, rfl, v5, nd, dt5, L, fsts rows, rfl, sh5.same s05, fi5.mono (Nat.le_refl _) (by decide), .inl (.inl eL5), fun H6 s6 => ?_⟩
        have s06 := s05.trans s6
        have eL6 := s6 _ _ eL5
        have drop : ds.drop i = dt5 :: ds.drop (i + 1) := by
          rw [List.drop_eq_getElem_cons il2]
          rw [List.getElem?_eq_getElem il2] at hdt5
          rw [Option.some.inj hdt5]
        cases hpr : probD (fsts rows) dt5 with
        | some pr =>
          have ge : goD [] ds = .error (pr, (i : Int)) := by
            rw [pre, drop, goD, hpr, lr0]
          refine ⟨.str pr, rfl, rfl, _, rfl, iteT ?_⟩
          refine ⟨.str pr, rfl, .int (i : Nat), rfl, (by decide : 2 ≤ sizeLine), fun t nt => ?_⟩
          have st := same_new (o := .tup [.str pr, .int (i : Nat)]) nt
          refine fin _ _ (s06.trans st) ?_
          have e : toldD dt = .tuple [.str pr, .int (i : Nat)] := by
            unfold toldD
            rw [inE, ge]
            rfl
          rw [e]
          exact .tup (.inl (.inl upd_same)) (.cons (.str _) (.cons (.int _) .nil))
        | none =>
          obtain ⟨n, es, rfl, v1, v2, v3, v4⟩ := prob_none hpr
          refine ⟨.non, rfl, rfl, _, rfl, iteF ?_⟩
          obtain ⟨t, x1, rfl, ht⟩ : ∃ (t : Addr) (x1 : V), v5 = .ref t ∧ SqT K H t [.str n, x1] := by
            cases sh5 with
            | tup e1 a1 =>
              cases a1 with
              | cons b1 a2 =>
                cases b1
                cases a2 with
                | cons b2 a3 =>
                  cases a3
                  exact ⟨_, _, rfl, e1⟩
          have fl : (fsts rows).length = rows.length := List.length_map _
          refine ⟨.ref L, rfl, .inl ⟨rfl, _, .inl (.inl eL6)⟩, .ref t, rfl, t, _, 0, .str n, rfl, rfl, sqT_same ht s06, atI_nat (j := 0) rfl, L, _, _, rfl, rfl, eL6, ?_, ?_⟩
          · rw [List.length_map]
            exact sz1 (by omega)
          · rw [hPv]
            refine ⟨_, _, _, rows ++ [(n, es.map strOf)], rfl, ?_, ?_, ?_, ?_⟩
            · rw [List.length_append, lr0]
              rfl
            · rw [pre, drop, goD, hpr]
              rfl
            · rw [upd_same, fsts_snoc, List.map_append]
              rfl
            · intro b o hb
              rw [upd_ne (ne_of_none hb nL0)]
              exact s06 _ _ hb
      · rw [hPv] at hP
        obtain ⟨y2, y3, y4, rows, rfl, lr0, pre, eL4, s4⟩ := hP
        have ge : goD [] ds = .ok rows := by
          rw [pre, List.drop_of_length_le (by omega), goD]
        have fl : (fsts rows).length = rows.length := List.length_map _
        refine ⟨.ref L, rfl, L, _, rfl, .inl (.inl (.inl eL4)), _, _, rfl, rfl, _, rfl, ?_⟩
        rw [List.length_map]
        by_cases hmany : rows.length ≤ 20
        · rw [decide_eq_true (by omega : ((fsts rows).length : Int) ≤ 20)]
          refine iteT ⟨.ref L, rfl, (by decide : 2 ≤ sizeLine), fun t nt => ?_⟩
          have st := same_new (o := .tup [.str "created", .ref L]) nt
          refine fin _ _ (s4.trans st) ?_
          have e : toldD dt = .tuple [.str "created", .list ((fsts rows).map PyData.str)] := by
            have e1 : initD dt = .ok rows := by
              rw [inE, ge]
              show (if rows.length ≤ 20 then _ else _) = _
              rw [if_pos hmany]
            unfold toldD
            rw [e1]
          rw [e]
          exact .tup (.inl (.inl upd_same)) (.cons (.str _) (.cons (.lst (.inl (.inl (st _ _ eL4))) (fun z => nomatch z) (sh_strs _)) .nil))
        · rw [decide_eq_false (by omega : ¬ ((fsts rows).length : Int) ≤ 20)]
          refine iteF ⟨(by decide : 2 ≤ sizeLine), fun t nt => ?_⟩
          have st := same_new (o := .tup [.str "count", .int 20]) nt
          refine fin _ _ (s4.trans st) ?_
          have e : toldD dt = .tuple [.str "count", .int 20] := by
            have e1 : initD dt = .error ("count", 20) := by
              rw [inE, ge]
              show (if rows.length ≤ 20 then _ else _) = _
              rw [if_neg hmany]
            unfold toldD
            rw [e1]
          rw [e]
          exact .tup (.inl (.inl upd_same)) (.cons (.str _) (.cons (.int _) .nil))
    | true =>
      have hc := hcT htp
      refine .inr ⟨c, us, rfl, sqT_same hc sG, ?_⟩
      refine for_it (walk_enumT (xs := us)) Pv start (fun i σ H4 _ hP => ?_) (fun i v σ H4 H5 hi hP hY => ?_) (fun σ H4 hP => ?_)
      · rw [hPv] at hP
        obtain ⟨_, _, _, _, _, _, _, _, s4⟩ := hP
        exact sqT_same hc s4
      · rw [hPv] at hP
        obtain ⟨y2, y3, y4, rows, rfl, lr0, pre, eL4, s4⟩ := hP
        obtain ⟨T5, a5, v5, rfl, nT5, rfl, ea5, ev5⟩ := hY
        cases Option.some.inj ea5
        obtain ⟨dt5, hdt5, sh5⟩ := shGet hds ev5
        have fi5 : Fit 900 15 dt5 := hfit _ (List.mem_of_getElem? hdt5)
        have il : i < us.length := hi
        have il2 : i < ds.length := by omega
        have s5 := same_new (o := .tup [.int (i : Nat), v5]) nT5
        have s05 := s4.trans s5
        have eL5 := s5 _ _ eL4
        refine ⟨T5, [.int (i : Nat), v5], rfl, .inl (.inl upd_same), rfl, _, _, rfl, _, _, rfl, rfl, ?_⟩
        refine ⟨v5, rfl, .ref L, rfl, v5, nd, dt5, L, fsts rows, rfl, sh5.same s05, fi5.mono (Nat.le_refl _) (by decide), .inl (.inl eL5), fun H6 s6 => ?_⟩
        have s06 := s05.trans s6
        have eL6 := s6 _ _ eL5
        have drop : ds.drop i = dt5 :: ds.drop (i + 1) := by
          rw [List.drop_eq_getElem_cons il2]
          rw [List.getElem?_eq_getElem il2] at hdt5
          rw [Option.some.inj hdt5]
        cases hpr : probD (fsts rows) dt5 with
        | some pr =>
          have ge : goD [] ds = .error (pr, (i : Int)) := by
            rw [pre, drop, goD, hpr, lr0]
          refine ⟨.str pr, rfl, rfl, _, rfl, iteT ?_⟩
          refine ⟨.str pr, rfl, .int (i : Nat), rfl, (by decide : 2 ≤ sizeLine), fun t nt => ?_⟩
          have st := same_new (o := .tup [.str pr, .int (i : Nat)]) nt
          refine fin _ _ (s06.trans st) ?_
          have e : toldD dt = .tuple [.str pr, .int (i : Nat)] := by
            unfold toldD
            rw [inE, ge]
            rfl
          rw [e]
          exact .tup (.inl (.inl upd_same)) (.cons (.str _) (.cons (.int _) .nil))
        | none =>
          obtain ⟨n, es, rfl, v1, v2, v3, v4⟩ := prob_none hpr
          refine ⟨.non, rfl, rfl, _, rfl, iteF ?_⟩
          obtain ⟨t, x1, rfl, ht⟩ : ∃ (t : Addr) (x1 : V), v5 = .ref t ∧ SqT K H t [.str n, x1] := by
            cases sh5 with
            | tup e1 a1 =>
              cases a1 with
              | cons b1 a2 =>
                cases b1
                cases a2 with
                | cons b2 a3 =>
                  cases a3
                  exact ⟨_, _, rfl, e1⟩
          have fl : (fsts rows).length = rows.length := List.length_map _
          refine ⟨.ref L, rfl, .inl ⟨rfl, _, .inl (.inl eL6)⟩, .ref t, rfl, t, _, 0, .str n, rfl, rfl, sqT_same ht s06, atI_nat (j := 0) rfl, L, _, _, rfl, rfl, eL6, ?_, ?_⟩
          · rw [List.length_map]
            exact sz1 (by omega)
          · rw [hPv]
            refine ⟨_, _, _, rows ++ [(n, es.map strOf)], rfl, ?_, ?_, ?_, ?_⟩
            · rw [List.length_append, lr0]
              rfl
            · rw [pre, drop, goD, hpr]
              rfl
            · rw [upd_same, fsts_snoc, List.map_append]
              rfl
            · intro b o hb
              rw [upd_ne (ne_of_none hb nL0)]
              exact s06 _ _ hb
      · rw [hPv] at hP
        obtain ⟨y2, y3, y4, rows, rfl, lr0, pre, eL4, s4⟩ := hP
        have ge : goD [] ds = .ok rows := by
          rw [pre, List.drop_of_length_le (by omega), goD]
        have fl : (fsts rows).length = rows.length := List.length_map _
        refine ⟨.ref L, rfl, L, _, rfl, .inl (.inl (.inl eL4)), _, _, rfl, rfl, _, rfl, ?_⟩
        rw [List.length_map]
        by_cases hmany : rows.length ≤ 20
        · rw [decide_eq_true (by omega : ((fsts rows).length : Int) ≤ 20)]
          refine iteT ⟨.ref L, rfl, (by decide : 2 ≤ sizeLine), fun t nt => ?_⟩
          have st := same_new (o := .tup [.str "created", .ref L]) nt
          refine fin _ _ (s4.trans st) ?_
          have e : toldD dt = .tuple [.str "created", .list ((fsts rows).map PyData.str)] := by
            have e1 : initD dt = .ok rows := by
              rw [inE, ge]
              show (if rows.length ≤ 20 then _ else _) = _
              rw [if_pos hmany]
            unfold toldD
            rw [e1]
          rw [e]
          exact .tup (.inl (.inl upd_same)) (.cons (.str _) (.cons (.lst (.inl (.inl (st _ _ eL4))) (fun z => nomatch z) (sh_strs _)) .nil))
        · rw [decide_eq_false (by omega : ¬ ((fsts rows).length : Int) ≤ 20)]
          refine iteF ⟨(by decide : 2 ≤ sizeLine), fun t nt => ?_⟩
          have st := same_new (o := .tup [.str "count", .int 20]) nt
          refine fin _ _ (s4.trans st) ?_
          have e : toldD dt = .tuple [.str "count", .int 20] := by
            have e1 : initD dt = .error ("count", 20) := by
              rw [inE, ge]
              show (if rows.length ≤ 20 then _ else _) = _
              rw [if_neg hmany]
            unfold toldD
            rw [e1]
          rw [e]
          exact .tup (.inl (.inl upd_same)) (.cons (.str _) (.cons (.int _) .nil))
def spRight (K : PySem.W.Frag) : Sp := fun vs H Q _ => ∃ (v : V) (dt : PyData) (ok : Addr → Prop), vs = [v] ∧ ShO ok H v dt ∧ (∀ a, ok a → a ≠ sysModules) ∧ (∀ a, ok a → H a ≠ none) ∧ Fit 40000 20 dt ∧
  (∀ d ∈ itemsD dt, Fit 900 15 d) ∧ (itemsD dt).length ≤ 90 ∧ ∀ H', Same H H' → Q (.bl true) H'
theorem fit_strs : ∀ {xs : List Str}, (∀ x ∈ xs, nameV (.str x) = true) → FitAll (9 * xs.length) 3 (xs.map PyData.str)
  | [], _ => fitAll_nil
  | x :: r, h => (FitAll.cons ((name_sm (h x (List.mem_cons_self ..))).fit.mono (Nat.le_refl _) (Nat.zero_le _)) (fit_strs fun y hy => h y (List.mem_cons_of_mem _ hy))).mono (by simp only [List.length_cons]; omega) (Nat.le_refl _)
theorem goD_names : ∀ {ds : List PyData} {acc rows : List Row2}, (∀ x ∈ fsts acc, nameV (.str x) = true) → goD acc ds = .ok rows → ∀ x ∈ fsts rows, nameV (.str x) = true
  | [], acc, rows, h, e => by
    rw [goD] at e
    cases e
    exact h
  | d :: ds, acc, rows, h, e => by
    rw [goD] at e
    cases hp : probD (fsts acc) d with
    | some p =>
      rw [hp] at e
      cases e
    | none =>
      rw [hp] at e
      obtain ⟨n, es, rfl, v1, _⟩ := prob_none hp
      refine goD_names (ds := ds) (acc := acc ++ [rowOf (.tuple [.str n, .tuple es])]) ?_ e
      intro x hx
      have e2 : fsts (acc ++ [rowOf (.tuple [.str n, .tuple es])]) = fsts acc ++ [n] := fsts_snoc acc n _
      rw [e2] at hx
      rcases List.mem_append.mp hx with z | z
      · exact h x z
      · rw [List.mem_singleton.mp z]
        exact v1
theorem goD_err : ∀ {ds : List PyData} {acc : List Row2} {p : Str} {i : Int}, goD acc ds = .error (p, i) → p.length ≤ 100 ∧ (∀ c ∈ p.cps.toList, c < 128) ∧ 0 ≤ i ∧ i ≤ acc.length + ds.length
  | [], acc, p, i, e => by
    rw [goD] at e
    cases e
  | d :: ds, acc, p, i, e => by
    rw [goD] at e
    cases hp : probD (fsts acc) d with
    | some pr =>
      rw [hp] at e
      cases e
      refine ⟨prob_len hp, ?_, by omega, by simp only [List.length_cons]; omega⟩
      rcases prob_cases hp with rfl | rfl | rfl | rfl <;> decide +kernel
    | none =>
      rw [hp] at e
      obtain ⟨h1, h2, h3, h4⟩ := goD_err (ds := ds) e
      refine ⟨h1, h2, h3, ?_⟩
      rw [List.length_append] at h4
      simp only [List.length_cons, List.length_nil] at h4 ⊢
      omega
theorem told_fit {dt : PyData} (hl : (itemsD dt).length ≤ 90) : Fit 2000 6 (toldD dt) := by
  have key : ∀ ds : List PyData, ds.length ≤ 90 → initD dt = endD (goD [] ds) → Fit 2000 6 (toldD dt) := by
    intro ds hl2 e
    unfold toldD
    rw [e]
    cases hg : goD [] ds with
    | error x =>
      obtain ⟨p, i⟩ := x
      obtain ⟨h1, h2, h3, h4⟩ := goD_err hg
      show Fit 2000 6 (.tuple [.str p, .int i])
      have z : i.natAbs ≤ 10 ^ 60 := Nat.le_trans (by simp only [List.length_nil] at h4; omega : i.natAbs ≤ 90) (by decide)
      exact (Fit.tup (FitAll.cons ((show Sm 100 p from ⟨h1, h2⟩).fit.mono (Nat.le_refl _) (Nat.zero_le 3)) (FitAll.cons ((fit_int z).mono (Nat.le_refl _) (Nat.zero_le _)) fitAll_nil))).mono (by decide) (by decide)
    | ok rows =>
      show Fit 2000 6 (match (if rows.length ≤ 20 then Except.ok rows else Except.error (("count" : Str), (20 : Int))) with | .ok rows => PyData.tuple [.str "created", .list ((fsts rows).map PyData.str)] | .error e => .tuple [.str e.1, .int e.2])
      have sc : Sm 10 ("created" : Str) := ⟨by decide +kernel, by decide +kernel⟩
      have sn : Sm 10 ("count" : Str) := ⟨by decide +kernel, by decide +kernel⟩
      by_cases h : rows.length ≤ 20
      · rw [if_pos h]
        have hn := goD_names (by intro x hx; simp [fsts] at hx) hg
        have fl : (fsts rows).length = rows.length := List.length_map _
        exact (Fit.tup (FitAll.cons (sc.fit.mono (Nat.le_refl _) (Nat.zero_le 4)) (FitAll.cons (Fit.lst (fit_strs hn)) fitAll_nil))).mono (by omega) (by decide)
      · rw [if_neg h]
        exact (Fit.tup (FitAll.cons (sn.fit.mono (Nat.le_refl _) (Nat.zero_le 4)) (FitAll.cons ((fit_int (by decide)).mono (Nat.le_refl _) (Nat.zero_le _)) fitAll_nil))).mono (by decide) (by decide)
  have sl : Sm 10 ("list" : Str) := ⟨by decide +kernel, by decide +kernel⟩
  have no : Fit 2000 6 (.tuple [.str "list", .int 0]) := (Fit.tup (FitAll.cons (sl.fit.mono (Nat.le_refl _) (Nat.zero_le 4)) (FitAll.cons ((fit_int (by decide)).mono (Nat.le_refl _) (Nat.zero_le _)) fitAll_nil))).mono (by decide) (by decide)
  cases dt with
  | list ds => exact key ds hl rfl
  | tuple ds => exact key ds hl rfl
  | _ => exact no
theorem ok_right {f fT fD : Addr} {fd fdT fdD : FuncData} {k : Nat} (F : Fun K "_law_right" "_law_right" sRight f fd)
    (FT : Fun K "_law_told" "_law_told" sTold fT fdT) (bT : Binds K fdT ["_law_handed"] []) (gT : mg "_law_told" = some (.ref fT))
    (FD : Fun K "_law_due" "_law_due" sLDue fD fdD) (bD : Binds K fdD ["_law_handed"] []) (gD : mg "_law_due" = some (.ref fD))
    (GT : FnOk P w K mg base CX0 (k + 6) fT fdT ["_law_handed"] (spTold K)) (GD : FnOk P w K mg base CX0 (k + 3) fD fdD ["_law_handed"] (spLDue K))
    (mp : mg "repr" = none) : FnG P w K mg base CX0 (k + 7) f fd ["_law_handed"] (spRight K) := by
  refine okG F scRight (fun vs H Q E h => ?_) (fun cdv A outer s H vs Q E hg hr h => ?_)
  · obtain ⟨v, dt, ok, rfl, _⟩ := h
    rfl
  · obtain ⟨v, dt, ok, rfl, sho, hoks, hokn, hf, hfit, hlen, fin⟩ := h
    have hrD := hr.mono (by omega : k + 3 ≤ k + 6)
    refine ⟨_, pss_cons (ps_set (i := 1) scRight.nd rfl (.inl rfl) (pe_callB (call_reprD hg hr.units) (by rfl) mp (by decide +kernel) (pa_cons (pv 0) pa_nil)))
      (pss_one (ps_ret (pe_and (pe_cmpR op_eq (pe_callB (call_reprD hg hr.units) (by rfl) mp (by decide +kernel) (pa_cons (pe_call GT hr (by rfl) gT FT.kp bT .nil pass0 (pa_cons (pv 0) pa_nil)) pa_nil))
          (pe_callB (call_reprD hg hr.units) (by rfl) mp (by decide +kernel) (pa_cons (pe_call GD hrD (by rfl) gD FD.kp bD .nil pass0 (pa_cons (pv 0) pa_nil)) pa_nil)) (nomark _))
        (pe_one (pe_cmpR op_eq (pe_callB (call_reprD hg hr.units) (by rfl) mp (by decide +kernel) (pa_cons (pv 0) pa_nil)) (pv 1) (nomark _)))))), ?_⟩
    have sh : Sh K false H v dt := sho.sh hoks
    obtain ⟨f1, f2, f3⟩ := hf.ok (by decide) (by decide)
    obtain ⟨t1, t2, t3⟩ := (told_fit hlen).ok (by decide) (by decide)
    refine ⟨v, rfl, false, v, dt, rfl, sh, f1, f2, f3, ?_⟩
    refine ⟨v, rfl, v, dt, ok, rfl, sho, hoks, hokn, hfit, hlen, fun H1 r1 s1 sr1 => ?_⟩
    refine ⟨true, r1, toldD dt, rfl, sr1, t1, t2, t3, v, rfl, v, dt, false, rfl, sh.same s1, hfit, hlen, fun H2 r2 s2 sr2 => ?_⟩
    refine ⟨true, r2, toldD dt, rfl, sr2, t1, t2, t3, rfl, _, rfl, ?_⟩
    rw [decide_eq_true rfl]
    have s12 := s1.trans s2
    refine iteT ⟨v, rfl, false, v, dt, rfl, sh.same s12, f1, f2, f3, .str dt.shown, rfl, rfl, ?_⟩
    rw [decide_eq_true rfl]
    exact fin _ s12
end
end Lw
/-! Rows that are spoilt. -/
namespace Lw
open PySem PySem.Spec PyProof.Rows L2 Kv
theorem scBad : FnScope ["_law_pot_here", "_law_rows", "_law_label", "_law_some"] ["_law_pot_here", "_law_rows"] (defScope sBad) :=
  ⟨rfl, rfl, rfl, by decide +kernel, rfl, by decide +kernel, by decide +kernel⟩
section
variable {X : Cx}
def rCatN : R2 := fun x y H Q => ∃ l b xs zs, x = .ref l ∧ y = .ref b ∧ H l = some (.lst xs) ∧ H b = some (.lst zs) ∧ xs.length + zs.length ≤ sizeLine ∧ ∀ p, H p = none → p ≠ sysModules → Q (.ref p) (upd H p (.lst (xs ++ zs)))
theorem op_catN (low : sysModules < X.base.objs.size) : OpR X (binaryOp .Add) rCatN := by
  intro pins s σ H x y v u Q I rx ry h
  obtain ⟨l, b, xs, zs, rfl, rfl, hH, hB, hz, q⟩ := h
  cases rx
  cases ry
  obtain ⟨z, its, n, r, hl, e⟩ := I.lstM hH
  obtain ⟨z2, its2, n2, r2, hl2, e2⟩ := I.lstM hB
  refine PySem.P.add_list e e2 ?_ (by rw [List.size_toArray, List.size_toArray]; omega)
  have ea : its.toArray ++ its2.toArray = (its ++ its2).toArray := by simp
  rw [ea]
  exact ⟨.ref _, _, I.lnew (t' := s.toks) (r.append r2) (by rw [List.length_append]; omega), rfl, q _ I.fresh (new_low low I)⟩
end
section
variable {P : Program} {w : World} {K : PySem.W.Frag} {mg : Str → Option Value} {base : Heap}
def spBad : Sp := fun vs H Q _ => ∃ (p R : Addr) (us : List V) (rows : List Row2), vs = [.ref p, .ref R] ∧ PotAt H p ∧ R ≠ p ∧ H R = some (.lst us) ∧ RowsAre H us rows ∧ 1 ≤ rows.length ∧ rows.length ≤ 20 ∧
  (∀ x ∈ fsts rows, nameV (.str x) = true) ∧ ∀ H' v d, PotAt H' p → But p H H' → ShO (NewAt H) H' v d → Fit 600 8 d → Q v H'
theorem ok_bad {f fD : Addr} {fd fdD : FuncData} {k : Nat} (F : Fun K "_law_bad_row" "_law_bad_row" sBad f fd) (low : sysModules < base.objs.size)
    (FD : Fun K "_law_draw" "_law_draw" sDraw fD fdD) (bD : Binds K fdD ["_law_pot_here", "_law_many"] []) (gD : mg "_law_draw" = some (.ref fD))
    (GD : FnOk P w K mg base CX0 (k + 1) fD fdD ["_law_pot_here", "_law_many"] spDraw) (ml : mg "len" = none) :
    FnOk P w K mg base CX0 (k + 2) f fd ["_law_pot_here", "_law_rows"] spBad := by
  refine F.ok scBad (fun vs H Q E h => ?_) (fun cdv A outer s H0 vs Q E hr h => ?_)
  · obtain ⟨p, R, us, rows, rfl, _⟩ := h
    rfl
  · obtain ⟨p, R, us, rows, rfl, hp0, nRp, hR, hra, hl1, hl2, hnm, fin⟩ := h
    refine ⟨_, (pss_cons (ps_set (i := 2) scBad.nd rfl (.inl rfl) (pe_ix ix_tup (pe_ix ix_list (pv 1) (pe_call GD hr (by rfl) gD FD.kp bD .nil pass0 (pa_cons (pv 0) (pa_cons (pe_callB call_len_seq (by rfl) ml PySem.boot_len (pa_cons (pv 1) pa_nil)) pa_nil))) (fun _ _ => rfl)) pe_int (fun _ _ => rfl)))
      (pss_cons (ps_set (i := 3) scBad.nd rfl (.inl rfl) (pe_lst (pa_cons pe_non (pa_cons (pe_tup pa_nil) (pa_cons (pe_tup (pa_cons pe_str pa_nil)) (pa_cons (pe_tup (pa_cons pe_str (pa_cons (pe_tup pa_nil) (pa_cons pe_int pa_nil)))) (pa_cons (pe_lstN low (pa_cons pe_str (pa_cons (pe_tup pa_nil) pa_nil))) (pa_cons pe_str (pa_cons pe_dnewK (pa_cons pe_int (pa_cons (pe_tup (pa_cons pe_str (pa_cons (pe_tup pa_nil) pa_nil))) (pa_cons (pe_tup (pa_cons pe_str (pa_cons (pe_tup pa_nil) pa_nil))) (pa_cons (pe_tup (pa_cons pe_non (pa_cons (pe_tup pa_nil) pa_nil))) pa_nil)))))))))))))
      (pss_cons (ps_set (i := 3) scBad.nd rfl (.inl rfl) (pe_op op_cat (pv 3) (pe_lst (pa_cons (pe_tup (pa_cons pe_str (pa_cons (pe_tup pa_nil) pa_nil))) (pa_cons (pe_tup (pa_cons pe_str (pa_cons (pe_tup pa_nil) pa_nil))) (pa_cons (pe_tup (pa_cons (pv 2) (pa_cons (pe_tup pa_nil) pa_nil))) (pa_cons (pe_tup (pa_cons (pv 2) (pa_cons (pe_tup (pa_cons (pv 2) pa_nil)) pa_nil))) (pa_cons (pe_tup (pa_cons pe_str (pa_cons (pe_lstN low (pa_cons (pv 2) pa_nil)) pa_nil))) (pa_cons (pe_tup (pa_cons pe_str (pa_cons pe_non pa_nil))) pa_nil)))))))))
      (pss_cons (ps_set (i := 3) scBad.nd rfl (.inl rfl) (pe_op op_cat (pv 3) (pe_lst (pa_cons (pe_tup (pa_cons pe_str (pa_cons (pe_tup (pa_cons (pv 2) (pa_cons (pv 2) pa_nil))) pa_nil))) (pa_cons (pe_tup (pa_cons pe_str (pa_cons (pe_tup (pa_cons pe_str pa_nil)) pa_nil))) (pa_cons (pe_tup (pa_cons pe_str (pa_cons (pe_tup (pa_cons pe_str pa_nil)) pa_nil))) (pa_cons (pe_tup (pa_cons pe_str (pa_cons (pe_tup (pa_cons pe_non pa_nil)) pa_nil))) (pa_cons (pe_tup (pa_cons (pe_lstN low (pa_cons pe_str pa_nil)) (pa_cons (pe_tup pa_nil) pa_nil))) pa_nil))))))))
      (pss_cons (ps_set (i := 3) scBad.nd rfl (.inl rfl) (pe_op op_cat (pv 3) (pe_lst (pa_cons (pe_tup (pa_cons pe_str (pa_cons (pe_tup (pa_cons (pe_lstN low (pa_cons (pv 2) pa_nil)) pa_nil)) pa_nil))) (pa_cons (pe_tup (pa_cons pe_str (pa_cons (pv 2) pa_nil))) (pa_cons (pe_tup (pa_cons pe_str (pa_cons (pe_tup (pa_cons (pe_upper (pv 2)) pa_nil)) pa_nil))) (pa_cons (pe_tup (pa_cons pe_str (pa_cons (pe_tup (pa_cons pe_bl pa_nil)) pa_nil))) (pa_cons (pe_tup (pa_cons pe_str (pa_cons pe_str pa_nil))) pa_nil))))))))
      (pss_cons (ps_expr (pe_bm PySem.F.plainAttrs_list PySem.F.slot_list_append PySem.F.type_list_append mt_append (pv 3) (pa_cons (pe_tup (pa_cons pe_str (pa_cons (pe_disp (pps_cons (pv 2) pe_int pps_nil) (by rfl) (by rfl) (fun z => by cases z) (by decide)) pa_nil))) pa_nil)))
      (pss_one (ps_ret (pe_ix ix_list (pv 3) (pe_call GD hr (by rfl) gD FD.kp bD .nil pass0 (pa_cons (pv 0) (pa_cons (pe_callB call_len_seq (by rfl) ml PySem.boot_len (pa_cons (pv 3) pa_nil)) pa_nil))) (fun _ _ => rfl)))))))))), ?_⟩
    have lu := hra.length
    refine ⟨.ref R, rfl, .ref p, rfl, .ref R, rfl, R, us, rfl, .inl (.inl (.inl hR)), p, _, rfl, hp0, by omega, by omega, fun H j j1 j2 hp b0 => ?_⟩
    have hR1 := b0 _ _ nRp hR
    have jl : j.toNat < us.length := by omega
    obtain ⟨v0, hv0⟩ : ∃ v0, us[j.toNat]? = some v0 := ⟨_, List.getElem?_eq_getElem jl⟩
    obtain ⟨⟨lb, ss⟩, hrow, t0, sA, rfl, ht0, hsA⟩ := hra.get hv0
    have hat : atI us j = some (.ref t0) := by
      have e : ((j.toNat : Nat) : Int) = j := by omega
      rw [← e]
      exact atI_nat hv0
    have ht1 := tup_but hp0 b0 ht0
    have hlb : Sm 8 lb := name_sm (hnm lb (List.mem_map.mpr ⟨_, List.mem_of_getElem? hrow, rfl⟩))
    have lb8 := hlb.1
    refine ⟨R, us, j, .ref t0, rfl, rfl, .inl (.inl hR1), hat, t0, _, 0, .str lb, rfl, rfl, .inl (.inl ht1), atI_nat (j := 0) rfl, ?_⟩
    clear j1 j2 hat jl hv0
    obtain ⟨rp, gp, hpe, hpr⟩ := id hp
    have fr : ∀ {a : Addr}, NewAt H a → NewAt H0 a := fun z => ⟨but_free hp b0 z.1, z.2⟩
    refine ⟨(by decide : 0 ≤ sizeLine), fun c1 n1 => ?_⟩
    have t1 := same_new (o := .tup []) n1
    have a1 : (upd H c1 (.tup [])) c1 = some (.tup []) := upd_same
    generalize upd H c1 (.tup []) = G1 at t1 a1 ⊢
    have F1 := t1
    refine ⟨(by decide : 1 ≤ sizeLine), fun c2 n2 => ?_⟩
    have t2 := same_new (o := .tup [.str "abc"]) n2
    have a2 : (upd G1 c2 (.tup [.str "abc"])) c2 = some (.tup [.str "abc"]) := upd_same
    generalize upd G1 c2 (.tup [.str "abc"]) = G2 at t2 a2 ⊢
    have F2 := F1.trans t2
    refine ⟨(by decide : 0 ≤ sizeLine), fun c3 n3 => ?_⟩
    have t3 := same_new (o := .tup []) n3
    have a3 : (upd G2 c3 (.tup [])) c3 = some (.tup []) := upd_same
    generalize upd G2 c3 (.tup []) = G3 at t3 a3 ⊢
    have F3 := F2.trans t3
    refine ⟨(by decide : 3 ≤ sizeLine), fun c4 n4 => ?_⟩
    have t4 := same_new (o := .tup [.str "abc", .ref c3, .int 1]) n4
    have a4 : (upd G3 c4 (.tup [.str "abc", .ref c3, .int 1])) c4 = some (.tup [.str "abc", .ref c3, .int 1]) := upd_same
    generalize upd G3 c4 (.tup [.str "abc", .ref c3, .int 1]) = G4 at t4 a4 ⊢
    have F4 := F3.trans t4
    refine ⟨(by decide : 0 ≤ sizeLine), fun c5 n5 => ?_⟩
    have t5 := same_new (o := .tup []) n5
    have a5 : (upd G4 c5 (.tup [])) c5 = some (.tup []) := upd_same
    generalize upd G4 c5 (.tup []) = G5 at t5 a5 ⊢
    have F5 := F4.trans t5
    refine ⟨(by decide : 2 ≤ sizeLine), fun c6 n6 z6 => ?_⟩
    have t6 := same_new (o := .lst [.str "abc", .ref c5]) n6
    have a6 : (upd G5 c6 (.lst [.str "abc", .ref c5])) c6 = some (.lst [.str "abc", .ref c5]) := upd_same
    generalize upd G5 c6 (.lst [.str "abc", .ref c5]) = G6 at t6 a6 ⊢
    have F6 := F5.trans t6
    refine fun c7 n7 => ?_
    have t7 := same_new (o := .dK []) n7
    have a7 : (upd G6 c7 (.dK [])) c7 = some (.dK []) := upd_same
    generalize upd G6 c7 (.dK []) = G7 at t7 a7 ⊢
    have F7 := F6.trans t7
    refine ⟨(by decide : 0 ≤ sizeLine), fun c8 n8 => ?_⟩
    have t8 := same_new (o := .tup []) n8
    have a8 : (upd G7 c8 (.tup [])) c8 = some (.tup []) := upd_same
    generalize upd G7 c8 (.tup []) = G8 at t8 a8 ⊢
    have F8 := F7.trans t8
    refine ⟨(by decide : 2 ≤ sizeLine), fun c9 n9 => ?_⟩
    have t9 := same_new (o := .tup [.str "Abc", .ref c8]) n9
    have a9 : (upd G8 c9 (.tup [.str "Abc", .ref c8])) c9 = some (.tup [.str "Abc", .ref c8]) := upd_same
    generalize upd G8 c9 (.tup [.str "Abc", .ref c8]) = G9 at t9 a9 ⊢
    have F9 := F8.trans t9
    refine ⟨(by decide : 0 ≤ sizeLine), fun c10 n10 => ?_⟩
    have t10 := same_new (o := .tup []) n10
    have a10 : (upd G9 c10 (.tup [])) c10 = some (.tup []) := upd_same
    generalize upd G9 c10 (.tup []) = G10 at t10 a10 ⊢
    have F10 := F9.trans t10
    refine ⟨(by decide : 2 ≤ sizeLine), fun c11 n11 => ?_⟩
    have t11 := same_new (o := .tup [.str "", .ref c10]) n11
    have a11 : (upd G10 c11 (.tup [.str "", .ref c10])) c11 = some (.tup [.str "", .ref c10]) := upd_same
    generalize upd G10 c11 (.tup [.str "", .ref c10]) = G11 at t11 a11 ⊢
    have F11 := F10.trans t11
    refine ⟨(by decide : 0 ≤ sizeLine), fun c12 n12 => ?_⟩
    have t12 := same_new (o := .tup []) n12
    have a12 : (upd G11 c12 (.tup [])) c12 = some (.tup []) := upd_same
    generalize upd G11 c12 (.tup []) = G12 at t12 a12 ⊢
    have F12 := F11.trans t12
    refine ⟨(by decide : 2 ≤ sizeLine), fun c13 n13 => ?_⟩
    have t13 := same_new (o := .tup [.non, .ref c12]) n13
    have a13 : (upd G12 c13 (.tup [.non, .ref c12])) c13 = some (.tup [.non, .ref c12]) := upd_same
    generalize upd G12 c13 (.tup [.non, .ref c12]) = G13 at t13 a13 ⊢
    have F13 := F12.trans t13
    refine ⟨(by decide : 11 ≤ sizeLine), fun c14 n14 => ?_⟩
    have t14 := same_new (o := .lst [.non, .ref c1, .ref c2, .ref c4, .ref c6, .str "ab", .ref c7, .int 7, .ref c9, .ref c11, .ref c13]) n14
    have a14 : (upd G13 c14 (.lst [.non, .ref c1, .ref c2, .ref c4, .ref c6, .str "ab", .ref c7, .int 7, .ref c9, .ref c11, .ref c13])) c14 = some (.lst [.non, .ref c1, .ref c2, .ref c4, .ref c6, .str "ab", .ref c7, .int 7, .ref c9, .ref c11, .ref c13]) := upd_same
    generalize upd G13 c14 (.lst [.non, .ref c1, .ref c2, .ref c4, .ref c6, .str "ab", .ref c7, .int 7, .ref c9, .ref c11, .ref c13]) = G14 at t14 a14 ⊢
    have F14 := F13.trans t14
    generalize hx14 : ([.non, .ref c1, .ref c2, .ref c4, .ref c6, .str "ab", .ref c7, .int 7, .ref c9, .ref c11, .ref c13] : List V) = xs14 at a14
    refine ⟨.ref c14, rfl, (by decide : 0 ≤ sizeLine), fun c15 n15 => ?_⟩
    have t15 := same_new (o := .tup []) n15
    have a15 : (upd G14 c15 (.tup [])) c15 = some (.tup []) := upd_same
    generalize upd G14 c15 (.tup []) = G15 at t15 a15 ⊢
    have F15 := F14.trans t15
    refine ⟨(by decide : 2 ≤ sizeLine), fun c16 n16 => ?_⟩
    have t16 := same_new (o := .tup [.str "ninechars", .ref c15]) n16
    have a16 : (upd G15 c16 (.tup [.str "ninechars", .ref c15])) c16 = some (.tup [.str "ninechars", .ref c15]) := upd_same
    generalize upd G15 c16 (.tup [.str "ninechars", .ref c15]) = G16 at t16 a16 ⊢
    have F16 := F15.trans t16
    refine ⟨(by decide : 0 ≤ sizeLine), fun c17 n17 => ?_⟩
    have t17 := same_new (o := .tup []) n17
    have a17 : (upd G16 c17 (.tup [])) c17 = some (.tup []) := upd_same
    generalize upd G16 c17 (.tup []) = G17 at t17 a17 ⊢
    have F17 := F16.trans t17
    refine ⟨(by decide : 2 ≤ sizeLine), fun c18 n18 => ?_⟩
    have t18 := same_new (o := .tup [.str "a b", .ref c17]) n18
    have a18 : (upd G17 c18 (.tup [.str "a b", .ref c17])) c18 = some (.tup [.str "a b", .ref c17]) := upd_same
    generalize upd G17 c18 (.tup [.str "a b", .ref c17]) = G18 at t18 a18 ⊢
    have F18 := F17.trans t18
    refine ⟨.str lb, rfl, (by decide : 0 ≤ sizeLine), fun c19 n19 => ?_⟩
    have t19 := same_new (o := .tup []) n19
    have a19 : (upd G18 c19 (.tup [])) c19 = some (.tup []) := upd_same
    generalize upd G18 c19 (.tup []) = G19 at t19 a19 ⊢
    have F19 := F18.trans t19
    refine ⟨(by decide : 2 ≤ sizeLine), fun c20 n20 => ?_⟩
    have t20 := same_new (o := .tup [.str lb, .ref c19]) n20
    have a20 : (upd G19 c20 (.tup [.str lb, .ref c19])) c20 = some (.tup [.str lb, .ref c19]) := upd_same
    generalize upd G19 c20 (.tup [.str lb, .ref c19]) = G20 at t20 a20 ⊢
    have F20 := F19.trans t20
    refine ⟨.str lb, rfl, .str lb, rfl, (by decide : 1 ≤ sizeLine), fun c21 n21 => ?_⟩
    have t21 := same_new (o := .tup [.str lb]) n21
    have a21 : (upd G20 c21 (.tup [.str lb])) c21 = some (.tup [.str lb]) := upd_same
    generalize upd G20 c21 (.tup [.str lb]) = G21 at t21 a21 ⊢
    have F21 := F20.trans t21
    refine ⟨(by decide : 2 ≤ sizeLine), fun c22 n22 => ?_⟩
    have t22 := same_new (o := .tup [.str lb, .ref c21]) n22
    have a22 : (upd G21 c22 (.tup [.str lb, .ref c21])) c22 = some (.tup [.str lb, .ref c21]) := upd_same
    generalize upd G21 c22 (.tup [.str lb, .ref c21]) = G22 at t22 a22 ⊢
    have F22 := F21.trans t22
    refine ⟨.str lb, rfl, (by decide : 1 ≤ sizeLine), fun c23 n23 z23 => ?_⟩
    have t23 := same_new (o := .lst [.str lb]) n23
    have a23 : (upd G22 c23 (.lst [.str lb])) c23 = some (.lst [.str lb]) := upd_same
    generalize upd G22 c23 (.lst [.str lb]) = G23 at t23 a23 ⊢
    have F23 := F22.trans t23
    refine ⟨(by decide : 2 ≤ sizeLine), fun c24 n24 => ?_⟩
    have t24 := same_new (o := .tup [.str "abc", .ref c23]) n24
    have a24 : (upd G23 c24 (.tup [.str "abc", .ref c23])) c24 = some (.tup [.str "abc", .ref c23]) := upd_same
    generalize upd G23 c24 (.tup [.str "abc", .ref c23]) = G24 at t24 a24 ⊢
    have F24 := F23.trans t24
    refine ⟨(by decide : 2 ≤ sizeLine), fun c25 n25 => ?_⟩
    have t25 := same_new (o := .tup [.str "abc", .non]) n25
    have a25 : (upd G24 c25 (.tup [.str "abc", .non])) c25 = some (.tup [.str "abc", .non]) := upd_same
    generalize upd G24 c25 (.tup [.str "abc", .non]) = G25 at t25 a25 ⊢
    have F25 := F24.trans t25
    refine ⟨(by decide : 6 ≤ sizeLine), fun c26 n26 => ?_⟩
    have t26 := same_new (o := .lst [.ref c16, .ref c18, .ref c20, .ref c22, .ref c24, .ref c25]) n26
    have a26 : (upd G25 c26 (.lst [.ref c16, .ref c18, .ref c20, .ref c22, .ref c24, .ref c25])) c26 = some (.lst [.ref c16, .ref c18, .ref c20, .ref c22, .ref c24, .ref c25]) := upd_same
    generalize upd G25 c26 (.lst [.ref c16, .ref c18, .ref c20, .ref c22, .ref c24, .ref c25]) = G26 at t26 a26 ⊢
    have F26 := F25.trans t26
    generalize hx26 : ([.ref c16, .ref c18, .ref c20, .ref c22, .ref c24, .ref c25] : List V) = xs26 at a26
    refine ⟨c14, c26, _, _, rfl, rfl, (t26 _ _ (t25 _ _ (t24 _ _ (t23 _ _ (t22 _ _ (t21 _ _ (t20 _ _ (t19 _ _ (t18 _ _ (t17 _ _ (t16 _ _ (t15 _ _ (a14))))))))))))), a26, (by rw [← hx14, ← hx26]; exact (by decide : 11 + 6 ≤ sizeLine)), fun c27 n27 => ?_⟩
    have t27 := same_new (o := .lst (xs14 ++ xs26)) n27
    have a27 : (upd G26 c27 (.lst (xs14 ++ xs26))) c27 = some (.lst (xs14 ++ xs26)) := upd_same
    generalize upd G26 c27 (.lst (xs14 ++ xs26)) = G27 at t27 a27 ⊢
    have F27 := F26.trans t27
    generalize hx27 : xs14 ++ xs26 = xs27 at a27
    refine ⟨.ref c27, rfl, .str lb, rfl, .str lb, rfl, (by decide : 2 ≤ sizeLine), fun c28 n28 => ?_⟩
    have t28 := same_new (o := .tup [.str lb, .str lb]) n28
    have a28 : (upd G27 c28 (.tup [.str lb, .str lb])) c28 = some (.tup [.str lb, .str lb]) := upd_same
    generalize upd G27 c28 (.tup [.str lb, .str lb]) = G28 at t28 a28 ⊢
    have F28 := F27.trans t28
    refine ⟨(by decide : 2 ≤ sizeLine), fun c29 n29 => ?_⟩
    have t29 := same_new (o := .tup [.str "abc", .ref c28]) n29
    have a29 : (upd G28 c29 (.tup [.str "abc", .ref c28])) c29 = some (.tup [.str "abc", .ref c28]) := upd_same
    generalize upd G28 c29 (.tup [.str "abc", .ref c28]) = G29 at t29 a29 ⊢
    have F29 := F28.trans t29
    refine ⟨(by decide : 1 ≤ sizeLine), fun c30 n30 => ?_⟩
    have t30 := same_new (o := .tup [.str "abc"]) n30
    have a30 : (upd G29 c30 (.tup [.str "abc"])) c30 = some (.tup [.str "abc"]) := upd_same
    generalize upd G29 c30 (.tup [.str "abc"]) = G30 at t30 a30 ⊢
    have F30 := F29.trans t30
    refine ⟨(by decide : 2 ≤ sizeLine), fun c31 n31 => ?_⟩
    have t31 := same_new (o := .tup [.str "abc", .ref c30]) n31
    have a31 : (upd G30 c31 (.tup [.str "abc", .ref c30])) c31 = some (.tup [.str "abc", .ref c30]) := upd_same
    generalize upd G30 c31 (.tup [.str "abc", .ref c30]) = G31 at t31 a31 ⊢
    have F31 := F30.trans t31
    refine ⟨(by decide : 1 ≤ sizeLine), fun c32 n32 => ?_⟩
    have t32 := same_new (o := .tup [.str "abcd"]) n32
    have a32 : (upd G31 c32 (.tup [.str "abcd"])) c32 = some (.tup [.str "abcd"]) := upd_same
    generalize upd G31 c32 (.tup [.str "abcd"]) = G32 at t32 a32 ⊢
    have F32 := F31.trans t32
    refine ⟨(by decide : 2 ≤ sizeLine), fun c33 n33 => ?_⟩
    have t33 := same_new (o := .tup [.str "abc", .ref c32]) n33
    have a33 : (upd G32 c33 (.tup [.str "abc", .ref c32])) c33 = some (.tup [.str "abc", .ref c32]) := upd_same
    generalize upd G32 c33 (.tup [.str "abc", .ref c32]) = G33 at t33 a33 ⊢
    have F33 := F32.trans t33
    refine ⟨(by decide : 1 ≤ sizeLine), fun c34 n34 => ?_⟩
    have t34 := same_new (o := .tup [.non]) n34
    have a34 : (upd G33 c34 (.tup [.non])) c34 = some (.tup [.non]) := upd_same
    generalize upd G33 c34 (.tup [.non]) = G34 at t34 a34 ⊢
    have F34 := F33.trans t34
    refine ⟨(by decide : 2 ≤ sizeLine), fun c35 n35 => ?_⟩
    have t35 := same_new (o := .tup [.str "abc", .ref c34]) n35
    have a35 : (upd G34 c35 (.tup [.str "abc", .ref c34])) c35 = some (.tup [.str "abc", .ref c34]) := upd_same
    generalize upd G34 c35 (.tup [.str "abc", .ref c34]) = G35 at t35 a35 ⊢
    have F35 := F34.trans t35
    refine ⟨(by decide : 1 ≤ sizeLine), fun c36 n36 z36 => ?_⟩
    have t36 := same_new (o := .lst [.str "a"]) n36
    have a36 : (upd G35 c36 (.lst [.str "a"])) c36 = some (.lst [.str "a"]) := upd_same
    generalize upd G35 c36 (.lst [.str "a"]) = G36 at t36 a36 ⊢
    have F36 := F35.trans t36
    refine ⟨(by decide : 0 ≤ sizeLine), fun c37 n37 => ?_⟩
    have t37 := same_new (o := .tup []) n37
    have a37 : (upd G36 c37 (.tup [])) c37 = some (.tup []) := upd_same
    generalize upd G36 c37 (.tup []) = G37 at t37 a37 ⊢
    have F37 := F36.trans t37
    refine ⟨(by decide : 2 ≤ sizeLine), fun c38 n38 => ?_⟩
    have t38 := same_new (o := .tup [.ref c36, .ref c37]) n38
    have a38 : (upd G37 c38 (.tup [.ref c36, .ref c37])) c38 = some (.tup [.ref c36, .ref c37]) := upd_same
    generalize upd G37 c38 (.tup [.ref c36, .ref c37]) = G38 at t38 a38 ⊢
    have F38 := F37.trans t38
    refine ⟨(by decide : 5 ≤ sizeLine), fun c39 n39 => ?_⟩
    have t39 := same_new (o := .lst [.ref c29, .ref c31, .ref c33, .ref c35, .ref c38]) n39
    have a39 : (upd G38 c39 (.lst [.ref c29, .ref c31, .ref c33, .ref c35, .ref c38])) c39 = some (.lst [.ref c29, .ref c31, .ref c33, .ref c35, .ref c38]) := upd_same
    generalize upd G38 c39 (.lst [.ref c29, .ref c31, .ref c33, .ref c35, .ref c38]) = G39 at t39 a39 ⊢
    have F39 := F38.trans t39
    generalize hx39 : ([.ref c29, .ref c31, .ref c33, .ref c35, .ref c38] : List V) = xs39 at a39
    refine ⟨c27, c39, _, _, rfl, rfl, (t39 _ _ (t38 _ _ (t37 _ _ (t36 _ _ (t35 _ _ (t34 _ _ (t33 _ _ (t32 _ _ (t31 _ _ (t30 _ _ (t29 _ _ (t28 _ _ (a27))))))))))))), a39, (by rw [← hx27, ← hx39, ← hx14, ← hx26]; exact (by decide : 17 + 5 ≤ sizeLine)), fun c40 n40 => ?_⟩
    have t40 := same_new (o := .lst (xs27 ++ xs39)) n40
    have a40 : (upd G39 c40 (.lst (xs27 ++ xs39))) c40 = some (.lst (xs27 ++ xs39)) := upd_same
    generalize upd G39 c40 (.lst (xs27 ++ xs39)) = G40 at t40 a40 ⊢
    have F40 := F39.trans t40
    generalize hx40 : xs27 ++ xs39 = xs40 at a40
    refine ⟨.ref c40, rfl, .str lb, rfl, (by decide : 1 ≤ sizeLine), fun c41 n41 z41 => ?_⟩
    have t41 := same_new (o := .lst [.str lb]) n41
    have a41 : (upd G40 c41 (.lst [.str lb])) c41 = some (.lst [.str lb]) := upd_same
    generalize upd G40 c41 (.lst [.str lb]) = G41 at t41 a41 ⊢
    have F41 := F40.trans t41
    refine ⟨(by decide : 1 ≤ sizeLine), fun c42 n42 => ?_⟩
    have t42 := same_new (o := .tup [.ref c41]) n42
    have a42 : (upd G41 c42 (.tup [.ref c41])) c42 = some (.tup [.ref c41]) := upd_same
    generalize upd G41 c42 (.tup [.ref c41]) = G42 at t42 a42 ⊢
    have F42 := F41.trans t42
    refine ⟨(by decide : 2 ≤ sizeLine), fun c43 n43 => ?_⟩
    have t43 := same_new (o := .tup [.str "abc", .ref c42]) n43
    have a43 : (upd G42 c43 (.tup [.str "abc", .ref c42])) c43 = some (.tup [.str "abc", .ref c42]) := upd_same
    generalize upd G42 c43 (.tup [.str "abc", .ref c42]) = G43 at t43 a43 ⊢
    have F43 := F42.trans t43
    refine ⟨.str lb, rfl, (by decide : 2 ≤ sizeLine), fun c44 n44 => ?_⟩
    have t44 := same_new (o := .tup [.str "abc", .str lb]) n44
    have a44 : (upd G43 c44 (.tup [.str "abc", .str lb])) c44 = some (.tup [.str "abc", .str lb]) := upd_same
    generalize upd G43 c44 (.tup [.str "abc", .str lb]) = G44 at t44 a44 ⊢
    have F44 := F43.trans t44
    refine ⟨.str lb, rfl, ⟨lb, rfl⟩, lb, rfl, rfl, (by omega), (by decide : 1 ≤ sizeLine), fun c45 n45 => ?_⟩
    have t45 := same_new (o := .tup [.str (Txt.upper lb)]) n45
    have a45 : (upd G44 c45 (.tup [.str (Txt.upper lb)])) c45 = some (.tup [.str (Txt.upper lb)]) := upd_same
    generalize upd G44 c45 (.tup [.str (Txt.upper lb)]) = G45 at t45 a45 ⊢
    have F45 := F44.trans t45
    refine ⟨(by decide : 2 ≤ sizeLine), fun c46 n46 => ?_⟩
    have t46 := same_new (o := .tup [.str "abc", .ref c45]) n46
    have a46 : (upd G45 c46 (.tup [.str "abc", .ref c45])) c46 = some (.tup [.str "abc", .ref c45]) := upd_same
    generalize upd G45 c46 (.tup [.str "abc", .ref c45]) = G46 at t46 a46 ⊢
    have F46 := F45.trans t46
    refine ⟨(by decide : 1 ≤ sizeLine), fun c47 n47 => ?_⟩
    have t47 := same_new (o := .tup [.bl true]) n47
    have a47 : (upd G46 c47 (.tup [.bl true])) c47 = some (.tup [.bl true]) := upd_same
    generalize upd G46 c47 (.tup [.bl true]) = G47 at t47 a47 ⊢
    have F47 := F46.trans t47
    refine ⟨(by decide : 2 ≤ sizeLine), fun c48 n48 => ?_⟩
    have t48 := same_new (o := .tup [.str "abc", .ref c47]) n48
    have a48 : (upd G47 c48 (.tup [.str "abc", .ref c47])) c48 = some (.tup [.str "abc", .ref c47]) := upd_same
    generalize upd G47 c48 (.tup [.str "abc", .ref c47]) = G48 at t48 a48 ⊢
    have F48 := F47.trans t48
    refine ⟨(by decide : 2 ≤ sizeLine), fun c49 n49 => ?_⟩
    have t49 := same_new (o := .tup [.str "abc", .str ""]) n49
    have a49 : (upd G48 c49 (.tup [.str "abc", .str ""])) c49 = some (.tup [.str "abc", .str ""]) := upd_same
    generalize upd G48 c49 (.tup [.str "abc", .str ""]) = G49 at t49 a49 ⊢
    have F49 := F48.trans t49
    refine ⟨(by decide : 5 ≤ sizeLine), fun c50 n50 => ?_⟩
    have t50 := same_new (o := .lst [.ref c43, .ref c44, .ref c46, .ref c48, .ref c49]) n50
    have a50 : (upd G49 c50 (.lst [.ref c43, .ref c44, .ref c46, .ref c48, .ref c49])) c50 = some (.lst [.ref c43, .ref c44, .ref c46, .ref c48, .ref c49]) := upd_same
    generalize upd G49 c50 (.lst [.ref c43, .ref c44, .ref c46, .ref c48, .ref c49]) = G50 at t50 a50 ⊢
    have F50 := F49.trans t50
    generalize hx50 : ([.ref c43, .ref c44, .ref c46, .ref c48, .ref c49] : List V) = xs50 at a50
    refine ⟨c40, c50, _, _, rfl, rfl, (t50 _ _ (t49 _ _ (t48 _ _ (t47 _ _ (t46 _ _ (t45 _ _ (t44 _ _ (t43 _ _ (t42 _ _ (t41 _ _ (a40))))))))))), a50, (by rw [← hx40, ← hx50, ← hx27, ← hx14, ← hx26, ← hx39]; exact (by decide : 22 + 5 ≤ sizeLine)), fun c51 n51 => ?_⟩
    have t51 := same_new (o := .lst (xs40 ++ xs50)) n51
    have a51 : (upd G50 c51 (.lst (xs40 ++ xs50))) c51 = some (.lst (xs40 ++ xs50)) := upd_same
    generalize upd G50 c51 (.lst (xs40 ++ xs50)) = G51 at t51 a51 ⊢
    have F51 := F50.trans t51
    generalize hx51 : xs40 ++ xs50 = xs51 at a51
    refine ⟨.ref c51, rfl, .inl ⟨rfl, _, .inl (.inl (a51))⟩, fun c52 n52 => ?_⟩
    refine ⟨.str lb, rfl, upd_same, [(Sum.inr lb, .int 1)], rfl, (by decide : 1 ≤ 15), ?_⟩
    have t52 := same_new2 (o := .dK []) (u := .dK (mergeK [] [(Sum.inr lb, .int 1)])) n52
    have a52 : (upd (upd G51 c52 (.dK [])) c52 (.dK (mergeK [] [(Sum.inr lb, .int 1)]))) c52 = some (.dK [(Sum.inr lb, .int 1)]) := upd_same
    generalize upd (upd G51 c52 (.dK [])) c52 (.dK (mergeK [] [(Sum.inr lb, .int 1)])) = G52 at t52 a52 ⊢
    have F52 := F51.trans t52
    refine ⟨(by decide : 2 ≤ sizeLine), fun c53 n53 => ?_⟩
    have t53 := same_new (o := .tup [.str "abc", .ref c52]) n53
    have a53 : (upd G52 c53 (.tup [.str "abc", .ref c52])) c53 = some (.tup [.str "abc", .ref c52]) := upd_same
    generalize upd G52 c53 (.tup [.str "abc", .ref c52]) = G53 at t53 a53 ⊢
    have F53 := F52.trans t53
    have hlc : xs51.length = 27 := by
      rw [← hx51, ← hx40, ← hx27, ← hx14, ← hx26, ← hx39, ← hx50]
      rfl
    refine ⟨c51, xs51, _, rfl, rfl, (t53 _ _ (t52 _ _ (a51))), sz1 (by omega), ?_⟩
    have aZ : (upd G53 c51 (.lst (xs51 ++ [.ref c53]))) c51 = some (.lst (xs51 ++ [.ref c53])) := upd_same
    have Zk : ∀ b o, b ≠ c51 → G53 b = some o → (upd G53 c51 (.lst (xs51 ++ [.ref c53]))) b = some o := fun b o nb hb => by
      rw [upd_ne nb]
      exact hb
    have FZ : Same H (upd G53 c51 (.lst (xs51 ++ [.ref c53]))) := fun b o e => Zk _ _ (ne_of_none e (F50.free n51)) (F53 _ _ e)
    generalize upd G53 c51 (.lst (xs51 ++ [.ref c53])) = Z at aZ Zk FZ ⊢
    generalize hxz : xs51 ++ [.ref c53] = xsZ at aZ
    have B53 : Same G53 G53 := Same.refl _
    have B52 := t53.trans B53
    have B51 := t52.trans B52
    have B50 := t51.trans B51
    have B49 := t50.trans B50
    have B48 := t49.trans B49
    have B47 := t48.trans B48
    have B46 := t47.trans B47
    have B45 := t46.trans B46
    have B44 := t45.trans B45
    have B43 := t44.trans B44
    have B42 := t43.trans B43
    have B41 := t42.trans B42
    have B40 := t41.trans B41
    have B39 := t40.trans B40
    have B38 := t39.trans B39
    have B37 := t38.trans B38
    have B36 := t37.trans B37
    have B35 := t36.trans B36
    have B34 := t35.trans B35
    have B33 := t34.trans B34
    have B32 := t33.trans B33
    have B31 := t32.trans B32
    have B30 := t31.trans B31
    have B29 := t30.trans B30
    have B28 := t29.trans B29
    have B27 := t28.trans B28
    have B26 := t27.trans B27
    have B25 := t26.trans B26
    have B24 := t25.trans B25
    have B23 := t24.trans B24
    have B22 := t23.trans B23
    have B21 := t22.trans B22
    have B20 := t21.trans B21
    have B19 := t20.trans B20
    have B18 := t19.trans B19
    have B17 := t18.trans B18
    have B16 := t17.trans B17
    have B15 := t16.trans B16
    have B14 := t15.trans B15
    have B13 := t14.trans B14
    have B12 := t13.trans B13
    have B11 := t12.trans B12
    have B10 := t11.trans B11
    have B9 := t10.trans B10
    have B8 := t9.trans B9
    have B7 := t8.trans B8
    have B6 := t7.trans B7
    have B5 := t6.trans B6
    have B4 := t5.trans B5
    have B3 := t4.trans B4
    have B2 := t3.trans B3
    have B1 := t2.trans B2
    have pne : ∀ {G : Hp} {c : Addr}, Same H G → G c = none → c ≠ p := by
      intro G c sg nc e
      obtain ⟨_, _, e3, _⟩ := hp
      rw [e, sg _ _ e3] at nc
      cases nc
    have hxs : xsZ = ([.non, .ref c1, .ref c2, .ref c4, .ref c6, .str "ab", .ref c7, .int 7, .ref c9, .ref c11, .ref c13, .ref c16, .ref c18, .ref c20, .ref c22, .ref c24, .ref c25, .ref c29, .ref c31, .ref c33, .ref c35, .ref c38, .ref c43, .ref c44, .ref c46, .ref c48, .ref c49, .ref c53] : List V) := by
      rw [← hxz, ← hx51, ← hx40, ← hx27, ← hx14, ← hx26, ← hx39, ← hx50]
      rfl
    have hln : xsZ.length = 28 := by
      rw [hxs]
      rfl
    refine ⟨.ref c51, rfl, .ref p, rfl, .ref c51, rfl, c51, _, rfl, .inl (.inl (.inl aZ)), p, _, rfl, hp.same FZ, by omega, by omega, fun H4 j j1 j2 hp4 s4 => ?_⟩
    have bt : But p H H4 := (But.of_same FZ).trans s4
    have E1 := s4 _ _ (pne (Same.refl _) n1) (Zk _ _ (ne_of_none (t50 _ _ (t49 _ _ (t48 _ _ (t47 _ _ (t46 _ _ (t45 _ _ (t44 _ _ (t43 _ _ (t42 _ _ (t41 _ _ (t40 _ _ (t39 _ _ (t38 _ _ (t37 _ _ (t36 _ _ (t35 _ _ (t34 _ _ (t33 _ _ (t32 _ _ (t31 _ _ (t30 _ _ (t29 _ _ (t28 _ _ (t27 _ _ (t26 _ _ (t25 _ _ (t24 _ _ (t23 _ _ (t22 _ _ (t21 _ _ (t20 _ _ (t19 _ _ (t18 _ _ (t17 _ _ (t16 _ _ (t15 _ _ (t14 _ _ (t13 _ _ (t12 _ _ (t11 _ _ (t10 _ _ (t9 _ _ (t8 _ _ (t7 _ _ (t6 _ _ (t5 _ _ (t4 _ _ (t3 _ _ (t2 _ _ (a1)))))))))))))))))))))))))))))))))))))))))))))))))) n51) (B1 _ _ a1))
    have E2 := s4 _ _ (pne F1 n2) (Zk _ _ (ne_of_none (t50 _ _ (t49 _ _ (t48 _ _ (t47 _ _ (t46 _ _ (t45 _ _ (t44 _ _ (t43 _ _ (t42 _ _ (t41 _ _ (t40 _ _ (t39 _ _ (t38 _ _ (t37 _ _ (t36 _ _ (t35 _ _ (t34 _ _ (t33 _ _ (t32 _ _ (t31 _ _ (t30 _ _ (t29 _ _ (t28 _ _ (t27 _ _ (t26 _ _ (t25 _ _ (t24 _ _ (t23 _ _ (t22 _ _ (t21 _ _ (t20 _ _ (t19 _ _ (t18 _ _ (t17 _ _ (t16 _ _ (t15 _ _ (t14 _ _ (t13 _ _ (t12 _ _ (t11 _ _ (t10 _ _ (t9 _ _ (t8 _ _ (t7 _ _ (t6 _ _ (t5 _ _ (t4 _ _ (t3 _ _ (a2))))))))))))))))))))))))))))))))))))))))))))))))) n51) (B2 _ _ a2))
    have E3 := s4 _ _ (pne F2 n3) (Zk _ _ (ne_of_none (t50 _ _ (t49 _ _ (t48 _ _ (t47 _ _ (t46 _ _ (t45 _ _ (t44 _ _ (t43 _ _ (t42 _ _ (t41 _ _ (t40 _ _ (t39 _ _ (t38 _ _ (t37 _ _ (t36 _ _ (t35 _ _ (t34 _ _ (t33 _ _ (t32 _ _ (t31 _ _ (t30 _ _ (t29 _ _ (t28 _ _ (t27 _ _ (t26 _ _ (t25 _ _ (t24 _ _ (t23 _ _ (t22 _ _ (t21 _ _ (t20 _ _ (t19 _ _ (t18 _ _ (t17 _ _ (t16 _ _ (t15 _ _ (t14 _ _ (t13 _ _ (t12 _ _ (t11 _ _ (t10 _ _ (t9 _ _ (t8 _ _ (t7 _ _ (t6 _ _ (t5 _ _ (t4 _ _ (a3)))))))))))))))))))))))))))))))))))))))))))))))) n51) (B3 _ _ a3))
    have E4 := s4 _ _ (pne F3 n4) (Zk _ _ (ne_of_none (t50 _ _ (t49 _ _ (t48 _ _ (t47 _ _ (t46 _ _ (t45 _ _ (t44 _ _ (t43 _ _ (t42 _ _ (t41 _ _ (t40 _ _ (t39 _ _ (t38 _ _ (t37 _ _ (t36 _ _ (t35 _ _ (t34 _ _ (t33 _ _ (t32 _ _ (t31 _ _ (t30 _ _ (t29 _ _ (t28 _ _ (t27 _ _ (t26 _ _ (t25 _ _ (t24 _ _ (t23 _ _ (t22 _ _ (t21 _ _ (t20 _ _ (t19 _ _ (t18 _ _ (t17 _ _ (t16 _ _ (t15 _ _ (t14 _ _ (t13 _ _ (t12 _ _ (t11 _ _ (t10 _ _ (t9 _ _ (t8 _ _ (t7 _ _ (t6 _ _ (t5 _ _ (a4))))))))))))))))))))))))))))))))))))))))))))))) n51) (B4 _ _ a4))
    have E5 := s4 _ _ (pne F4 n5) (Zk _ _ (ne_of_none (t50 _ _ (t49 _ _ (t48 _ _ (t47 _ _ (t46 _ _ (t45 _ _ (t44 _ _ (t43 _ _ (t42 _ _ (t41 _ _ (t40 _ _ (t39 _ _ (t38 _ _ (t37 _ _ (t36 _ _ (t35 _ _ (t34 _ _ (t33 _ _ (t32 _ _ (t31 _ _ (t30 _ _ (t29 _ _ (t28 _ _ (t27 _ _ (t26 _ _ (t25 _ _ (t24 _ _ (t23 _ _ (t22 _ _ (t21 _ _ (t20 _ _ (t19 _ _ (t18 _ _ (t17 _ _ (t16 _ _ (t15 _ _ (t14 _ _ (t13 _ _ (t12 _ _ (t11 _ _ (t10 _ _ (t9 _ _ (t8 _ _ (t7 _ _ (t6 _ _ (a5)))))))))))))))))))))))))))))))))))))))))))))) n51) (B5 _ _ a5))
    have E6 := s4 _ _ (pne F5 n6) (Zk _ _ (ne_of_none (t50 _ _ (t49 _ _ (t48 _ _ (t47 _ _ (t46 _ _ (t45 _ _ (t44 _ _ (t43 _ _ (t42 _ _ (t41 _ _ (t40 _ _ (t39 _ _ (t38 _ _ (t37 _ _ (t36 _ _ (t35 _ _ (t34 _ _ (t33 _ _ (t32 _ _ (t31 _ _ (t30 _ _ (t29 _ _ (t28 _ _ (t27 _ _ (t26 _ _ (t25 _ _ (t24 _ _ (t23 _ _ (t22 _ _ (t21 _ _ (t20 _ _ (t19 _ _ (t18 _ _ (t17 _ _ (t16 _ _ (t15 _ _ (t14 _ _ (t13 _ _ (t12 _ _ (t11 _ _ (t10 _ _ (t9 _ _ (t8 _ _ (t7 _ _ (a6))))))))))))))))))))))))))))))))))))))))))))) n51) (B6 _ _ a6))
    have o6 : NewAt H0 c6 := fr ⟨F5.free n6, z6⟩
    have E7 := s4 _ _ (pne F6 n7) (Zk _ _ (ne_of_none (t50 _ _ (t49 _ _ (t48 _ _ (t47 _ _ (t46 _ _ (t45 _ _ (t44 _ _ (t43 _ _ (t42 _ _ (t41 _ _ (t40 _ _ (t39 _ _ (t38 _ _ (t37 _ _ (t36 _ _ (t35 _ _ (t34 _ _ (t33 _ _ (t32 _ _ (t31 _ _ (t30 _ _ (t29 _ _ (t28 _ _ (t27 _ _ (t26 _ _ (t25 _ _ (t24 _ _ (t23 _ _ (t22 _ _ (t21 _ _ (t20 _ _ (t19 _ _ (t18 _ _ (t17 _ _ (t16 _ _ (t15 _ _ (t14 _ _ (t13 _ _ (t12 _ _ (t11 _ _ (t10 _ _ (t9 _ _ (t8 _ _ (a7)))))))))))))))))))))))))))))))))))))))))))) n51) (B7 _ _ a7))
    have E8 := s4 _ _ (pne F7 n8) (Zk _ _ (ne_of_none (t50 _ _ (t49 _ _ (t48 _ _ (t47 _ _ (t46 _ _ (t45 _ _ (t44 _ _ (t43 _ _ (t42 _ _ (t41 _ _ (t40 _ _ (t39 _ _ (t38 _ _ (t37 _ _ (t36 _ _ (t35 _ _ (t34 _ _ (t33 _ _ (t32 _ _ (t31 _ _ (t30 _ _ (t29 _ _ (t28 _ _ (t27 _ _ (t26 _ _ (t25 _ _ (t24 _ _ (t23 _ _ (t22 _ _ (t21 _ _ (t20 _ _ (t19 _ _ (t18 _ _ (t17 _ _ (t16 _ _ (t15 _ _ (t14 _ _ (t13 _ _ (t12 _ _ (t11 _ _ (t10 _ _ (t9 _ _ (a8))))))))))))))))))))))))))))))))))))))))))) n51) (B8 _ _ a8))
    have E9 := s4 _ _ (pne F8 n9) (Zk _ _ (ne_of_none (t50 _ _ (t49 _ _ (t48 _ _ (t47 _ _ (t46 _ _ (t45 _ _ (t44 _ _ (t43 _ _ (t42 _ _ (t41 _ _ (t40 _ _ (t39 _ _ (t38 _ _ (t37 _ _ (t36 _ _ (t35 _ _ (t34 _ _ (t33 _ _ (t32 _ _ (t31 _ _ (t30 _ _ (t29 _ _ (t28 _ _ (t27 _ _ (t26 _ _ (t25 _ _ (t24 _ _ (t23 _ _ (t22 _ _ (t21 _ _ (t20 _ _ (t19 _ _ (t18 _ _ (t17 _ _ (t16 _ _ (t15 _ _ (t14 _ _ (t13 _ _ (t12 _ _ (t11 _ _ (t10 _ _ (a9)))))))))))))))))))))))))))))))))))))))))) n51) (B9 _ _ a9))
    have E10 := s4 _ _ (pne F9 n10) (Zk _ _ (ne_of_none (t50 _ _ (t49 _ _ (t48 _ _ (t47 _ _ (t46 _ _ (t45 _ _ (t44 _ _ (t43 _ _ (t42 _ _ (t41 _ _ (t40 _ _ (t39 _ _ (t38 _ _ (t37 _ _ (t36 _ _ (t35 _ _ (t34 _ _ (t33 _ _ (t32 _ _ (t31 _ _ (t30 _ _ (t29 _ _ (t28 _ _ (t27 _ _ (t26 _ _ (t25 _ _ (t24 _ _ (t23 _ _ (t22 _ _ (t21 _ _ (t20 _ _ (t19 _ _ (t18 _ _ (t17 _ _ (t16 _ _ (t15 _ _ (t14 _ _ (t13 _ _ (t12 _ _ (t11 _ _ (a10))))))))))))))))))))))))))))))))))))))))) n51) (B10 _ _ a10))
    have E11 := s4 _ _ (pne F10 n11) (Zk _ _ (ne_of_none (t50 _ _ (t49 _ _ (t48 _ _ (t47 _ _ (t46 _ _ (t45 _ _ (t44 _ _ (t43 _ _ (t42 _ _ (t41 _ _ (t40 _ _ (t39 _ _ (t38 _ _ (t37 _ _ (t36 _ _ (t35 _ _ (t34 _ _ (t33 _ _ (t32 _ _ (t31 _ _ (t30 _ _ (t29 _ _ (t28 _ _ (t27 _ _ (t26 _ _ (t25 _ _ (t24 _ _ (t23 _ _ (t22 _ _ (t21 _ _ (t20 _ _ (t19 _ _ (t18 _ _ (t17 _ _ (t16 _ _ (t15 _ _ (t14 _ _ (t13 _ _ (t12 _ _ (a11)))))))))))))))))))))))))))))))))))))))) n51) (B11 _ _ a11))
    have E12 := s4 _ _ (pne F11 n12) (Zk _ _ (ne_of_none (t50 _ _ (t49 _ _ (t48 _ _ (t47 _ _ (t46 _ _ (t45 _ _ (t44 _ _ (t43 _ _ (t42 _ _ (t41 _ _ (t40 _ _ (t39 _ _ (t38 _ _ (t37 _ _ (t36 _ _ (t35 _ _ (t34 _ _ (t33 _ _ (t32 _ _ (t31 _ _ (t30 _ _ (t29 _ _ (t28 _ _ (t27 _ _ (t26 _ _ (t25 _ _ (t24 _ _ (t23 _ _ (t22 _ _ (t21 _ _ (t20 _ _ (t19 _ _ (t18 _ _ (t17 _ _ (t16 _ _ (t15 _ _ (t14 _ _ (t13 _ _ (a12))))))))))))))))))))))))))))))))))))))) n51) (B12 _ _ a12))
    have E13 := s4 _ _ (pne F12 n13) (Zk _ _ (ne_of_none (t50 _ _ (t49 _ _ (t48 _ _ (t47 _ _ (t46 _ _ (t45 _ _ (t44 _ _ (t43 _ _ (t42 _ _ (t41 _ _ (t40 _ _ (t39 _ _ (t38 _ _ (t37 _ _ (t36 _ _ (t35 _ _ (t34 _ _ (t33 _ _ (t32 _ _ (t31 _ _ (t30 _ _ (t29 _ _ (t28 _ _ (t27 _ _ (t26 _ _ (t25 _ _ (t24 _ _ (t23 _ _ (t22 _ _ (t21 _ _ (t20 _ _ (t19 _ _ (t18 _ _ (t17 _ _ (t16 _ _ (t15 _ _ (t14 _ _ (a13)))))))))))))))))))))))))))))))))))))) n51) (B13 _ _ a13))
    have E14 := s4 _ _ (pne F13 n14) (Zk _ _ (ne_of_none (t50 _ _ (t49 _ _ (t48 _ _ (t47 _ _ (t46 _ _ (t45 _ _ (t44 _ _ (t43 _ _ (t42 _ _ (t41 _ _ (t40 _ _ (t39 _ _ (t38 _ _ (t37 _ _ (t36 _ _ (t35 _ _ (t34 _ _ (t33 _ _ (t32 _ _ (t31 _ _ (t30 _ _ (t29 _ _ (t28 _ _ (t27 _ _ (t26 _ _ (t25 _ _ (t24 _ _ (t23 _ _ (t22 _ _ (t21 _ _ (t20 _ _ (t19 _ _ (t18 _ _ (t17 _ _ (t16 _ _ (t15 _ _ (a14))))))))))))))))))))))))))))))))))))) n51) (B14 _ _ a14))
    have E15 := s4 _ _ (pne F14 n15) (Zk _ _ (ne_of_none (t50 _ _ (t49 _ _ (t48 _ _ (t47 _ _ (t46 _ _ (t45 _ _ (t44 _ _ (t43 _ _ (t42 _ _ (t41 _ _ (t40 _ _ (t39 _ _ (t38 _ _ (t37 _ _ (t36 _ _ (t35 _ _ (t34 _ _ (t33 _ _ (t32 _ _ (t31 _ _ (t30 _ _ (t29 _ _ (t28 _ _ (t27 _ _ (t26 _ _ (t25 _ _ (t24 _ _ (t23 _ _ (t22 _ _ (t21 _ _ (t20 _ _ (t19 _ _ (t18 _ _ (t17 _ _ (t16 _ _ (a15)))))))))))))))))))))))))))))))))))) n51) (B15 _ _ a15))
    have E16 := s4 _ _ (pne F15 n16) (Zk _ _ (ne_of_none (t50 _ _ (t49 _ _ (t48 _ _ (t47 _ _ (t46 _ _ (t45 _ _ (t44 _ _ (t43 _ _ (t42 _ _ (t41 _ _ (t40 _ _ (t39 _ _ (t38 _ _ (t37 _ _ (t36 _ _ (t35 _ _ (t34 _ _ (t33 _ _ (t32 _ _ (t31 _ _ (t30 _ _ (t29 _ _ (t28 _ _ (t27 _ _ (t26 _ _ (t25 _ _ (t24 _ _ (t23 _ _ (t22 _ _ (t21 _ _ (t20 _ _ (t19 _ _ (t18 _ _ (t17 _ _ (a16))))))))))))))))))))))))))))))))))) n51) (B16 _ _ a16))
    have E17 := s4 _ _ (pne F16 n17) (Zk _ _ (ne_of_none (t50 _ _ (t49 _ _ (t48 _ _ (t47 _ _ (t46 _ _ (t45 _ _ (t44 _ _ (t43 _ _ (t42 _ _ (t41 _ _ (t40 _ _ (t39 _ _ (t38 _ _ (t37 _ _ (t36 _ _ (t35 _ _ (t34 _ _ (t33 _ _ (t32 _ _ (t31 _ _ (t30 _ _ (t29 _ _ (t28 _ _ (t27 _ _ (t26 _ _ (t25 _ _ (t24 _ _ (t23 _ _ (t22 _ _ (t21 _ _ (t20 _ _ (t19 _ _ (t18 _ _ (a17)))))))))))))))))))))))))))))))))) n51) (B17 _ _ a17))
    have E18 := s4 _ _ (pne F17 n18) (Zk _ _ (ne_of_none (t50 _ _ (t49 _ _ (t48 _ _ (t47 _ _ (t46 _ _ (t45 _ _ (t44 _ _ (t43 _ _ (t42 _ _ (t41 _ _ (t40 _ _ (t39 _ _ (t38 _ _ (t37 _ _ (t36 _ _ (t35 _ _ (t34 _ _ (t33 _ _ (t32 _ _ (t31 _ _ (t30 _ _ (t29 _ _ (t28 _ _ (t27 _ _ (t26 _ _ (t25 _ _ (t24 _ _ (t23 _ _ (t22 _ _ (t21 _ _ (t20 _ _ (t19 _ _ (a18))))))))))))))))))))))))))))))))) n51) (B18 _ _ a18))
    have E19 := s4 _ _ (pne F18 n19) (Zk _ _ (ne_of_none (t50 _ _ (t49 _ _ (t48 _ _ (t47 _ _ (t46 _ _ (t45 _ _ (t44 _ _ (t43 _ _ (t42 _ _ (t41 _ _ (t40 _ _ (t39 _ _ (t38 _ _ (t37 _ _ (t36 _ _ (t35 _ _ (t34 _ _ (t33 _ _ (t32 _ _ (t31 _ _ (t30 _ _ (t29 _ _ (t28 _ _ (t27 _ _ (t26 _ _ (t25 _ _ (t24 _ _ (t23 _ _ (t22 _ _ (t21 _ _ (t20 _ _ (a19)))))))))))))))))))))))))))))))) n51) (B19 _ _ a19))
    have E20 := s4 _ _ (pne F19 n20) (Zk _ _ (ne_of_none (t50 _ _ (t49 _ _ (t48 _ _ (t47 _ _ (t46 _ _ (t45 _ _ (t44 _ _ (t43 _ _ (t42 _ _ (t41 _ _ (t40 _ _ (t39 _ _ (t38 _ _ (t37 _ _ (t36 _ _ (t35 _ _ (t34 _ _ (t33 _ _ (t32 _ _ (t31 _ _ (t30 _ _ (t29 _ _ (t28 _ _ (t27 _ _ (t26 _ _ (t25 _ _ (t24 _ _ (t23 _ _ (t22 _ _ (t21 _ _ (a20))))))))))))))))))))))))))))))) n51) (B20 _ _ a20))
    have E21 := s4 _ _ (pne F20 n21) (Zk _ _ (ne_of_none (t50 _ _ (t49 _ _ (t48 _ _ (t47 _ _ (t46 _ _ (t45 _ _ (t44 _ _ (t43 _ _ (t42 _ _ (t41 _ _ (t40 _ _ (t39 _ _ (t38 _ _ (t37 _ _ (t36 _ _ (t35 _ _ (t34 _ _ (t33 _ _ (t32 _ _ (t31 _ _ (t30 _ _ (t29 _ _ (t28 _ _ (t27 _ _ (t26 _ _ (t25 _ _ (t24 _ _ (t23 _ _ (t22 _ _ (a21)))))))))))))))))))))))))))))) n51) (B21 _ _ a21))
    have E22 := s4 _ _ (pne F21 n22) (Zk _ _ (ne_of_none (t50 _ _ (t49 _ _ (t48 _ _ (t47 _ _ (t46 _ _ (t45 _ _ (t44 _ _ (t43 _ _ (t42 _ _ (t41 _ _ (t40 _ _ (t39 _ _ (t38 _ _ (t37 _ _ (t36 _ _ (t35 _ _ (t34 _ _ (t33 _ _ (t32 _ _ (t31 _ _ (t30 _ _ (t29 _ _ (t28 _ _ (t27 _ _ (t26 _ _ (t25 _ _ (t24 _ _ (t23 _ _ (a22))))))))))))))))))))))))))))) n51) (B22 _ _ a22))
    have E23 := s4 _ _ (pne F22 n23) (Zk _ _ (ne_of_none (t50 _ _ (t49 _ _ (t48 _ _ (t47 _ _ (t46 _ _ (t45 _ _ (t44 _ _ (t43 _ _ (t42 _ _ (t41 _ _ (t40 _ _ (t39 _ _ (t38 _ _ (t37 _ _ (t36 _ _ (t35 _ _ (t34 _ _ (t33 _ _ (t32 _ _ (t31 _ _ (t30 _ _ (t29 _ _ (t28 _ _ (t27 _ _ (t26 _ _ (t25 _ _ (t24 _ _ (a23)))))))))))))))))))))))))))) n51) (B23 _ _ a23))
    have o23 : NewAt H0 c23 := fr ⟨F22.free n23, z23⟩
    have E24 := s4 _ _ (pne F23 n24) (Zk _ _ (ne_of_none (t50 _ _ (t49 _ _ (t48 _ _ (t47 _ _ (t46 _ _ (t45 _ _ (t44 _ _ (t43 _ _ (t42 _ _ (t41 _ _ (t40 _ _ (t39 _ _ (t38 _ _ (t37 _ _ (t36 _ _ (t35 _ _ (t34 _ _ (t33 _ _ (t32 _ _ (t31 _ _ (t30 _ _ (t29 _ _ (t28 _ _ (t27 _ _ (t26 _ _ (t25 _ _ (a24))))))))))))))))))))))))))) n51) (B24 _ _ a24))
    have E25 := s4 _ _ (pne F24 n25) (Zk _ _ (ne_of_none (t50 _ _ (t49 _ _ (t48 _ _ (t47 _ _ (t46 _ _ (t45 _ _ (t44 _ _ (t43 _ _ (t42 _ _ (t41 _ _ (t40 _ _ (t39 _ _ (t38 _ _ (t37 _ _ (t36 _ _ (t35 _ _ (t34 _ _ (t33 _ _ (t32 _ _ (t31 _ _ (t30 _ _ (t29 _ _ (t28 _ _ (t27 _ _ (t26 _ _ (a25)))))))))))))))))))))))))) n51) (B25 _ _ a25))
    have E26 := s4 _ _ (pne F25 n26) (Zk _ _ (ne_of_none (t50 _ _ (t49 _ _ (t48 _ _ (t47 _ _ (t46 _ _ (t45 _ _ (t44 _ _ (t43 _ _ (t42 _ _ (t41 _ _ (t40 _ _ (t39 _ _ (t38 _ _ (t37 _ _ (t36 _ _ (t35 _ _ (t34 _ _ (t33 _ _ (t32 _ _ (t31 _ _ (t30 _ _ (t29 _ _ (t28 _ _ (t27 _ _ (a26))))))))))))))))))))))))) n51) (B26 _ _ a26))
    have E27 := s4 _ _ (pne F26 n27) (Zk _ _ (ne_of_none (t50 _ _ (t49 _ _ (t48 _ _ (t47 _ _ (t46 _ _ (t45 _ _ (t44 _ _ (t43 _ _ (t42 _ _ (t41 _ _ (t40 _ _ (t39 _ _ (t38 _ _ (t37 _ _ (t36 _ _ (t35 _ _ (t34 _ _ (t33 _ _ (t32 _ _ (t31 _ _ (t30 _ _ (t29 _ _ (t28 _ _ (a27)))))))))))))))))))))))) n51) (B27 _ _ a27))
    have E28 := s4 _ _ (pne F27 n28) (Zk _ _ (ne_of_none (t50 _ _ (t49 _ _ (t48 _ _ (t47 _ _ (t46 _ _ (t45 _ _ (t44 _ _ (t43 _ _ (t42 _ _ (t41 _ _ (t40 _ _ (t39 _ _ (t38 _ _ (t37 _ _ (t36 _ _ (t35 _ _ (t34 _ _ (t33 _ _ (t32 _ _ (t31 _ _ (t30 _ _ (t29 _ _ (a28))))))))))))))))))))))) n51) (B28 _ _ a28))
    have E29 := s4 _ _ (pne F28 n29) (Zk _ _ (ne_of_none (t50 _ _ (t49 _ _ (t48 _ _ (t47 _ _ (t46 _ _ (t45 _ _ (t44 _ _ (t43 _ _ (t42 _ _ (t41 _ _ (t40 _ _ (t39 _ _ (t38 _ _ (t37 _ _ (t36 _ _ (t35 _ _ (t34 _ _ (t33 _ _ (t32 _ _ (t31 _ _ (t30 _ _ (a29)))))))))))))))))))))) n51) (B29 _ _ a29))
    have E30 := s4 _ _ (pne F29 n30) (Zk _ _ (ne_of_none (t50 _ _ (t49 _ _ (t48 _ _ (t47 _ _ (t46 _ _ (t45 _ _ (t44 _ _ (t43 _ _ (t42 _ _ (t41 _ _ (t40 _ _ (t39 _ _ (t38 _ _ (t37 _ _ (t36 _ _ (t35 _ _ (t34 _ _ (t33 _ _ (t32 _ _ (t31 _ _ (a30))))))))))))))))))))) n51) (B30 _ _ a30))
    have E31 := s4 _ _ (pne F30 n31) (Zk _ _ (ne_of_none (t50 _ _ (t49 _ _ (t48 _ _ (t47 _ _ (t46 _ _ (t45 _ _ (t44 _ _ (t43 _ _ (t42 _ _ (t41 _ _ (t40 _ _ (t39 _ _ (t38 _ _ (t37 _ _ (t36 _ _ (t35 _ _ (t34 _ _ (t33 _ _ (t32 _ _ (a31)))))))))))))))))))) n51) (B31 _ _ a31))
    have E32 := s4 _ _ (pne F31 n32) (Zk _ _ (ne_of_none (t50 _ _ (t49 _ _ (t48 _ _ (t47 _ _ (t46 _ _ (t45 _ _ (t44 _ _ (t43 _ _ (t42 _ _ (t41 _ _ (t40 _ _ (t39 _ _ (t38 _ _ (t37 _ _ (t36 _ _ (t35 _ _ (t34 _ _ (t33 _ _ (a32))))))))))))))))))) n51) (B32 _ _ a32))
    have E33 := s4 _ _ (pne F32 n33) (Zk _ _ (ne_of_none (t50 _ _ (t49 _ _ (t48 _ _ (t47 _ _ (t46 _ _ (t45 _ _ (t44 _ _ (t43 _ _ (t42 _ _ (t41 _ _ (t40 _ _ (t39 _ _ (t38 _ _ (t37 _ _ (t36 _ _ (t35 _ _ (t34 _ _ (a33)))))))))))))))))) n51) (B33 _ _ a33))
    have E34 := s4 _ _ (pne F33 n34) (Zk _ _ (ne_of_none (t50 _ _ (t49 _ _ (t48 _ _ (t47 _ _ (t46 _ _ (t45 _ _ (t44 _ _ (t43 _ _ (t42 _ _ (t41 _ _ (t40 _ _ (t39 _ _ (t38 _ _ (t37 _ _ (t36 _ _ (t35 _ _ (a34))))))))))))))))) n51) (B34 _ _ a34))
    have E35 := s4 _ _ (pne F34 n35) (Zk _ _ (ne_of_none (t50 _ _ (t49 _ _ (t48 _ _ (t47 _ _ (t46 _ _ (t45 _ _ (t44 _ _ (t43 _ _ (t42 _ _ (t41 _ _ (t40 _ _ (t39 _ _ (t38 _ _ (t37 _ _ (t36 _ _ (a35)))))))))))))))) n51) (B35 _ _ a35))
    have E36 := s4 _ _ (pne F35 n36) (Zk _ _ (ne_of_none (t50 _ _ (t49 _ _ (t48 _ _ (t47 _ _ (t46 _ _ (t45 _ _ (t44 _ _ (t43 _ _ (t42 _ _ (t41 _ _ (t40 _ _ (t39 _ _ (t38 _ _ (t37 _ _ (a36))))))))))))))) n51) (B36 _ _ a36))
    have o36 : NewAt H0 c36 := fr ⟨F35.free n36, z36⟩
    have E37 := s4 _ _ (pne F36 n37) (Zk _ _ (ne_of_none (t50 _ _ (t49 _ _ (t48 _ _ (t47 _ _ (t46 _ _ (t45 _ _ (t44 _ _ (t43 _ _ (t42 _ _ (t41 _ _ (t40 _ _ (t39 _ _ (t38 _ _ (a37)))))))))))))) n51) (B37 _ _ a37))
    have E38 := s4 _ _ (pne F37 n38) (Zk _ _ (ne_of_none (t50 _ _ (t49 _ _ (t48 _ _ (t47 _ _ (t46 _ _ (t45 _ _ (t44 _ _ (t43 _ _ (t42 _ _ (t41 _ _ (t40 _ _ (t39 _ _ (a38))))))))))))) n51) (B38 _ _ a38))
    have E39 := s4 _ _ (pne F38 n39) (Zk _ _ (ne_of_none (t50 _ _ (t49 _ _ (t48 _ _ (t47 _ _ (t46 _ _ (t45 _ _ (t44 _ _ (t43 _ _ (t42 _ _ (t41 _ _ (t40 _ _ (a39)))))))))))) n51) (B39 _ _ a39))
    have E40 := s4 _ _ (pne F39 n40) (Zk _ _ (ne_of_none (t50 _ _ (t49 _ _ (t48 _ _ (t47 _ _ (t46 _ _ (t45 _ _ (t44 _ _ (t43 _ _ (t42 _ _ (t41 _ _ (a40))))))))))) n51) (B40 _ _ a40))
    have E41 := s4 _ _ (pne F40 n41) (Zk _ _ (ne_of_none (t50 _ _ (t49 _ _ (t48 _ _ (t47 _ _ (t46 _ _ (t45 _ _ (t44 _ _ (t43 _ _ (t42 _ _ (a41)))))))))) n51) (B41 _ _ a41))
    have o41 : NewAt H0 c41 := fr ⟨F40.free n41, z41⟩
    have E42 := s4 _ _ (pne F41 n42) (Zk _ _ (ne_of_none (t50 _ _ (t49 _ _ (t48 _ _ (t47 _ _ (t46 _ _ (t45 _ _ (t44 _ _ (t43 _ _ (a42))))))))) n51) (B42 _ _ a42))
    have E43 := s4 _ _ (pne F42 n43) (Zk _ _ (ne_of_none (t50 _ _ (t49 _ _ (t48 _ _ (t47 _ _ (t46 _ _ (t45 _ _ (t44 _ _ (a43)))))))) n51) (B43 _ _ a43))
    have E44 := s4 _ _ (pne F43 n44) (Zk _ _ (ne_of_none (t50 _ _ (t49 _ _ (t48 _ _ (t47 _ _ (t46 _ _ (t45 _ _ (a44))))))) n51) (B44 _ _ a44))
    have E45 := s4 _ _ (pne F44 n45) (Zk _ _ (ne_of_none (t50 _ _ (t49 _ _ (t48 _ _ (t47 _ _ (t46 _ _ (a45)))))) n51) (B45 _ _ a45))
    have E46 := s4 _ _ (pne F45 n46) (Zk _ _ (ne_of_none (t50 _ _ (t49 _ _ (t48 _ _ (t47 _ _ (a46))))) n51) (B46 _ _ a46))
    have E47 := s4 _ _ (pne F46 n47) (Zk _ _ (ne_of_none (t50 _ _ (t49 _ _ (t48 _ _ (a47)))) n51) (B47 _ _ a47))
    have E48 := s4 _ _ (pne F47 n48) (Zk _ _ (ne_of_none (t50 _ _ (t49 _ _ (a48))) n51) (B48 _ _ a48))
    have E49 := s4 _ _ (pne F48 n49) (Zk _ _ (ne_of_none (t50 _ _ (a49)) n51) (B49 _ _ a49))
    have E50 := s4 _ _ (pne F49 n50) (Zk _ _ (ne_of_none (a50) n51) (B50 _ _ a50))
    have E51 := s4 _ _ (pne F50 n51) aZ
    have E52 := s4 _ _ (pne F51 n52) (Zk _ _ (ne_of_none (a51) n52).symm (B52 _ _ a52))
    have E53 := s4 _ _ (pne F52 n53) (Zk _ _ (ne_of_none (t52 _ _ (a51)) n53).symm (B53 _ _ a53))
    have lit : ∀ x : Str, x ∈ (["", "Abc", "a", "a b", "ab", "abc", "abcd", "ninechars"] : List Str) → Sm 20 x := by
      intro x hx
      have h1 : ∀ y ∈ (["", "Abc", "a", "a b", "ab", "abc", "abcd", "ninechars"] : List Str), y.length ≤ 20 := by decide +kernel
      have h2 : ∀ y ∈ (["", "Abc", "a", "a b", "ab", "abc", "abcd", "ninechars"] : List Str), ∀ c ∈ y.cps.toList, c < 128 := by decide +kernel
      exact ⟨h1 x hx, h2 x hx⟩
    have gd : ∀ v, atI xsZ j = some v → ∃ d, ShO (NewAt H0) H4 v d ∧ Fit 600 8 d := by
      intro v hv
      rw [hxs] at hv
      have : j = 0 ∨ j = 1 ∨ j = 2 ∨ j = 3 ∨ j = 4 ∨ j = 5 ∨ j = 6 ∨ j = 7 ∨ j = 8 ∨ j = 9 ∨ j = 10 ∨ j = 11 ∨ j = 12 ∨ j = 13 ∨ j = 14 ∨ j = 15 ∨ j = 16 ∨ j = 17 ∨ j = 18 ∨ j = 19 ∨ j = 20 ∨ j = 21 ∨ j = 22 ∨ j = 23 ∨ j = 24 ∨ j = 25 ∨ j = 26 ∨ j = 27 := by omega
      rcases this with rfl | rfl | rfl | rfl | rfl | rfl | rfl | rfl | rfl | rfl | rfl | rfl | rfl | rfl | rfl | rfl | rfl | rfl | rfl | rfl | rfl | rfl | rfl | rfl | rfl | rfl | rfl | rfl <;> cases hv
      · exact ⟨_, .non, Fit.mono (fit_non.mono (Nat.le_refl _) (Nat.zero_le 8)) (by decide) (by decide)⟩
      · exact ⟨_, (.tup E1 .nil), Fit.mono (Fit.tup (m := 7) fitAll_nil) (by decide) (by decide)⟩
      · exact ⟨_, (.tup E2 (.cons (.str _) .nil)), Fit.mono (Fit.tup (m := 7) (FitAll.cons ((lit "abc" (by simp)).fit.mono (Nat.le_refl _) (Nat.zero_le 7)) fitAll_nil)) (by decide) (by decide)⟩
      · exact ⟨_, (.tup E4 (.cons (.str _) (.cons (.tup E3 .nil) (.cons (.int 1) .nil)))), Fit.mono (Fit.tup (m := 7) (FitAll.cons ((lit "abc" (by simp)).fit.mono (Nat.le_refl _) (Nat.zero_le 7)) (FitAll.cons (Fit.tup (m := 6) fitAll_nil) (FitAll.cons ((fit_int (by decide)).mono (Nat.le_refl _) (Nat.zero_le 7)) fitAll_nil)))) (by decide) (by decide)⟩
      · exact ⟨_, (.lst E6 o6 (.cons (.str _) (.cons (.tup E5 .nil) .nil))), Fit.mono (Fit.lst (m := 7) (FitAll.cons ((lit "abc" (by simp)).fit.mono (Nat.le_refl _) (Nat.zero_le 7)) (FitAll.cons (Fit.tup (m := 6) fitAll_nil) fitAll_nil))) (by decide) (by decide)⟩
      · exact ⟨_, (.str _), Fit.mono ((lit "ab" (by simp)).fit.mono (Nat.le_refl _) (Nat.zero_le 8)) (by decide) (by decide)⟩
      · exact ⟨_, (.dict (ks := []) (vs := []) E7 .nil .nil), Fit.mono (Fit.dict (m := 7) fitKv_nil) (by decide) (by decide)⟩
      · exact ⟨_, (.int 7), Fit.mono ((fit_int (by decide)).mono (Nat.le_refl _) (Nat.zero_le 8)) (by decide) (by decide)⟩
      · exact ⟨_, (.tup E9 (.cons (.str _) (.cons (.tup E8 .nil) .nil))), Fit.mono (Fit.tup (m := 7) (FitAll.cons ((lit "Abc" (by simp)).fit.mono (Nat.le_refl _) (Nat.zero_le 7)) (FitAll.cons (Fit.tup (m := 6) fitAll_nil) fitAll_nil))) (by decide) (by decide)⟩
      · exact ⟨_, (.tup E11 (.cons (.str _) (.cons (.tup E10 .nil) .nil))), Fit.mono (Fit.tup (m := 7) (FitAll.cons ((lit "" (by simp)).fit.mono (Nat.le_refl _) (Nat.zero_le 7)) (FitAll.cons (Fit.tup (m := 6) fitAll_nil) fitAll_nil))) (by decide) (by decide)⟩
      · exact ⟨_, (.tup E13 (.cons .non (.cons (.tup E12 .nil) .nil))), Fit.mono (Fit.tup (m := 7) (FitAll.cons (fit_non.mono (Nat.le_refl _) (Nat.zero_le 7)) (FitAll.cons (Fit.tup (m := 6) fitAll_nil) fitAll_nil))) (by decide) (by decide)⟩
      · exact ⟨_, (.tup E16 (.cons (.str _) (.cons (.tup E15 .nil) .nil))), Fit.mono (Fit.tup (m := 7) (FitAll.cons ((lit "ninechars" (by simp)).fit.mono (Nat.le_refl _) (Nat.zero_le 7)) (FitAll.cons (Fit.tup (m := 6) fitAll_nil) fitAll_nil))) (by decide) (by decide)⟩
      · exact ⟨_, (.tup E18 (.cons (.str _) (.cons (.tup E17 .nil) .nil))), Fit.mono (Fit.tup (m := 7) (FitAll.cons ((lit "a b" (by simp)).fit.mono (Nat.le_refl _) (Nat.zero_le 7)) (FitAll.cons (Fit.tup (m := 6) fitAll_nil) fitAll_nil))) (by decide) (by decide)⟩
      · exact ⟨_, (.tup E20 (.cons (.str lb) (.cons (.tup E19 .nil) .nil))), Fit.mono (Fit.tup (m := 7) (FitAll.cons (hlb.fit.mono (Nat.le_refl _) (Nat.zero_le 7)) (FitAll.cons (Fit.tup (m := 6) fitAll_nil) fitAll_nil))) (by decide) (by decide)⟩
      · exact ⟨_, (.tup E22 (.cons (.str lb) (.cons (.tup E21 (.cons (.str lb) .nil)) .nil))), Fit.mono (Fit.tup (m := 7) (FitAll.cons (hlb.fit.mono (Nat.le_refl _) (Nat.zero_le 7)) (FitAll.cons (Fit.tup (m := 6) (FitAll.cons (hlb.fit.mono (Nat.le_refl _) (Nat.zero_le 6)) fitAll_nil)) fitAll_nil))) (by decide) (by decide)⟩
      · exact ⟨_, (.tup E24 (.cons (.str _) (.cons (.lst E23 o23 (.cons (.str lb) .nil)) .nil))), Fit.mono (Fit.tup (m := 7) (FitAll.cons ((lit "abc" (by simp)).fit.mono (Nat.le_refl _) (Nat.zero_le 7)) (FitAll.cons (Fit.lst (m := 6) (FitAll.cons (hlb.fit.mono (Nat.le_refl _) (Nat.zero_le 6)) fitAll_nil)) fitAll_nil))) (by decide) (by decide)⟩
      · exact ⟨_, (.tup E25 (.cons (.str _) (.cons .non .nil))), Fit.mono (Fit.tup (m := 7) (FitAll.cons ((lit "abc" (by simp)).fit.mono (Nat.le_refl _) (Nat.zero_le 7)) (FitAll.cons (fit_non.mono (Nat.le_refl _) (Nat.zero_le 7)) fitAll_nil))) (by decide) (by decide)⟩
      · exact ⟨_, (.tup E29 (.cons (.str _) (.cons (.tup E28 (.cons (.str lb) (.cons (.str lb) .nil))) .nil))), Fit.mono (Fit.tup (m := 7) (FitAll.cons ((lit "abc" (by simp)).fit.mono (Nat.le_refl _) (Nat.zero_le 7)) (FitAll.cons (Fit.tup (m := 6) (FitAll.cons (hlb.fit.mono (Nat.le_refl _) (Nat.zero_le 6)) (FitAll.cons (hlb.fit.mono (Nat.le_refl _) (Nat.zero_le 6)) fitAll_nil))) fitAll_nil))) (by decide) (by decide)⟩
      · exact ⟨_, (.tup E31 (.cons (.str _) (.cons (.tup E30 (.cons (.str _) .nil)) .nil))), Fit.mono (Fit.tup (m := 7) (FitAll.cons ((lit "abc" (by simp)).fit.mono (Nat.le_refl _) (Nat.zero_le 7)) (FitAll.cons (Fit.tup (m := 6) (FitAll.cons ((lit "abc" (by simp)).fit.mono (Nat.le_refl _) (Nat.zero_le 6)) fitAll_nil)) fitAll_nil))) (by decide) (by decide)⟩
      · exact ⟨_, (.tup E33 (.cons (.str _) (.cons (.tup E32 (.cons (.str _) .nil)) .nil))), Fit.mono (Fit.tup (m := 7) (FitAll.cons ((lit "abc" (by simp)).fit.mono (Nat.le_refl _) (Nat.zero_le 7)) (FitAll.cons (Fit.tup (m := 6) (FitAll.cons ((lit "abcd" (by simp)).fit.mono (Nat.le_refl _) (Nat.zero_le 6)) fitAll_nil)) fitAll_nil))) (by decide) (by decide)⟩
      · exact ⟨_, (.tup E35 (.cons (.str _) (.cons (.tup E34 (.cons .non .nil)) .nil))), Fit.mono (Fit.tup (m := 7) (FitAll.cons ((lit "abc" (by simp)).fit.mono (Nat.le_refl _) (Nat.zero_le 7)) (FitAll.cons (Fit.tup (m := 6) (FitAll.cons (fit_non.mono (Nat.le_refl _) (Nat.zero_le 6)) fitAll_nil)) fitAll_nil))) (by decide) (by decide)⟩
      · exact ⟨_, (.tup E38 (.cons (.lst E36 o36 (.cons (.str _) .nil)) (.cons (.tup E37 .nil) .nil))), Fit.mono (Fit.tup (m := 7) (FitAll.cons (Fit.lst (m := 6) (FitAll.cons ((lit "a" (by simp)).fit.mono (Nat.le_refl _) (Nat.zero_le 6)) fitAll_nil)) (FitAll.cons (Fit.tup (m := 6) fitAll_nil) fitAll_nil))) (by decide) (by decide)⟩
      · exact ⟨_, (.tup E43 (.cons (.str _) (.cons (.tup E42 (.cons (.lst E41 o41 (.cons (.str lb) .nil)) .nil)) .nil))), Fit.mono (Fit.tup (m := 7) (FitAll.cons ((lit "abc" (by simp)).fit.mono (Nat.le_refl _) (Nat.zero_le 7)) (FitAll.cons (Fit.tup (m := 6) (FitAll.cons (Fit.lst (m := 5) (FitAll.cons (hlb.fit.mono (Nat.le_refl _) (Nat.zero_le 5)) fitAll_nil)) fitAll_nil)) fitAll_nil))) (by decide) (by decide)⟩
      · exact ⟨_, (.tup E44 (.cons (.str _) (.cons (.str lb) .nil))), Fit.mono (Fit.tup (m := 7) (FitAll.cons ((lit "abc" (by simp)).fit.mono (Nat.le_refl _) (Nat.zero_le 7)) (FitAll.cons (hlb.fit.mono (Nat.le_refl _) (Nat.zero_le 7)) fitAll_nil))) (by decide) (by decide)⟩
      · exact ⟨_, (.tup E46 (.cons (.str _) (.cons (.tup E45 (.cons (.str _) .nil)) .nil))), Fit.mono (Fit.tup (m := 7) (FitAll.cons ((lit "abc" (by simp)).fit.mono (Nat.le_refl _) (Nat.zero_le 7)) (FitAll.cons (Fit.tup (m := 6) (FitAll.cons (hlb.upper.fit.mono (Nat.le_refl _) (Nat.zero_le 6)) fitAll_nil)) fitAll_nil))) (by decide) (by decide)⟩
      · exact ⟨_, (.tup E48 (.cons (.str _) (.cons (.tup E47 (.cons (.bl true) .nil)) .nil))), Fit.mono (Fit.tup (m := 7) (FitAll.cons ((lit "abc" (by simp)).fit.mono (Nat.le_refl _) (Nat.zero_le 7)) (FitAll.cons (Fit.tup (m := 6) (FitAll.cons (fit_bl.mono (Nat.le_refl _) (Nat.zero_le 6)) fitAll_nil)) fitAll_nil))) (by decide) (by decide)⟩
      · exact ⟨_, (.tup E49 (.cons (.str _) (.cons (.str _) .nil))), Fit.mono (Fit.tup (m := 7) (FitAll.cons ((lit "abc" (by simp)).fit.mono (Nat.le_refl _) (Nat.zero_le 7)) (FitAll.cons ((lit "" (by simp)).fit.mono (Nat.le_refl _) (Nat.zero_le 7)) fitAll_nil))) (by decide) (by decide)⟩
      · exact ⟨_, (.tup E53 (.cons (.str _) (.cons (.dict (ks := [.str lb]) (vs := [.int 1]) E52 (.cons (.str _) .nil) (.cons (.int _) .nil)) .nil))), Fit.mono (Fit.tup (m := 7) (FitAll.cons ((lit "abc" (by simp)).fit.mono (Nat.le_refl _) (Nat.zero_le 7)) (FitAll.cons (Fit.dict (m := 6) (Fit.consKv (hlb.fit.mono (Nat.le_refl _) (Nat.zero_le 6)) ((fit_int (by decide)).mono (Nat.le_refl _) (Nat.zero_le _)) fitKv_nil)) fitAll_nil))) (by decide) (by decide)⟩
    obtain ⟨v, hv, _⟩ := atI_some (L := xsZ) j1 (by omega)
    obtain ⟨d, hd, hf⟩ := gd v hv
    exact ⟨c51, _, j, v, rfl, rfl, .inl (.inl E51), hv, fin _ _ d hp4 (b0.trans bt) hd hf⟩
end
end Lw
namespace Lw
open PySem PySem.Spec PyProof.Rows L2 Kv
abbrev NSp : List Str := ["_law_pot_here", "_law_rows", "_law_handed", "_law_way", "_law_at", "_law_other", "_law_changed", "_law_more", "_law_letter"]
theorem scSp : FnScope NSp ["_law_pot_here", "_law_rows", "_law_handed"] (defScope sSpoilt) :=
  ⟨rfl, rfl, rfl, by decide +kernel, rfl, by decide +kernel, by decide +kernel⟩
/-- values that can be shown, one by one -/
inductive Els (ok : Addr → Prop) (H : Hp) : List V → List PyData → Prop
  | nil : Els ok H [] []
  | cons {v : V} {d : PyData} {vs : List V} {ds : List PyData} : ShO ok H v d → Fit 900 15 d → Els ok H vs ds → Els ok H (v :: vs) (d :: ds)
theorem Els.map {ok ok' : Addr → Prop} {H H' : Hp} (f : ∀ {v : V} {d : PyData}, ShO ok H v d → ShO ok' H' v d) : ∀ {vs : List V} {ds : List PyData}, Els ok H vs ds → Els ok' H' vs ds
  | _, _, .nil => .nil
  | _, _, .cons a b c => .cons (f a) b (Els.map f c)
theorem Els.append {ok : Addr → Prop} {H : Hp} : ∀ {vs : List V} {ds : List PyData} {us : List V} {es : List PyData}, Els ok H vs ds → Els ok H us es → Els ok H (vs ++ us) (ds ++ es)
  | _, _, _, _, .nil, h => h
  | _, _, _, _, .cons a b c, h => .cons a b (c.append h)
theorem Els.split {ok : Addr → Prop} {H : Hp} : ∀ {vs : List V} {ds : List PyData} (i : Nat), Els ok H vs ds → Els ok H (vs.take i) (ds.take i) ∧ Els ok H (vs.drop i) (ds.drop i)
  | _, _, 0, h => by
    rw [List.take_zero, List.take_zero, List.drop_zero, List.drop_zero]
    exact ⟨.nil, h⟩
  | _, _, i + 1, .nil => by
    rw [List.take_nil, List.take_nil, List.drop_nil, List.drop_nil]
    exact ⟨.nil, .nil⟩
  | _, _, i + 1, .cons a b c => by
    rw [List.take_succ_cons, List.take_succ_cons, List.drop_succ_cons, List.drop_succ_cons]
    obtain ⟨x, y⟩ := Els.split i c
    exact ⟨.cons a b x, y⟩
theorem Els.set {ok : Addr → Prop} {H : Hp} {v : V} {d : PyData} (sv : ShO ok H v d) (fv : Fit 900 15 d) : ∀ {vs : List V} {ds : List PyData} (i : Nat), Els ok H vs ds → Els ok H (vs.set i v) (ds.set i d)
  | _, _, _, .nil => .nil
  | _, _, 0, .cons a b c => .cons sv fv c
  | _, _, i + 1, .cons a b c => .cons a b (Els.set sv fv i c)
theorem Els.get {ok : Addr → Prop} {H : Hp} : ∀ {vs : List V} {ds : List PyData} {i : Nat} {v : V}, Els ok H vs ds → vs[i]? = some v → ∃ d, ds[i]? = some d ∧ ShO ok H v d ∧ Fit 900 15 d
  | _, _, _, _, .nil, e => by simp at e
  | _, _, 0, _, .cons a b _, e => by
    simp at e
    subst e
    exact ⟨_, rfl, a, b⟩
  | _, _, i + 1, v, .cons _ _ b, e => by
    obtain ⟨d, h1, h2⟩ := Els.get (i := i) (v := v) b (by simpa using e)
    exact ⟨d, by simpa using h1, h2⟩
theorem Els.shos {ok : Addr → Prop} {H : Hp} : ∀ {vs : List V} {ds : List PyData}, Els ok H vs ds → ShOs ok H vs ds
  | _, _, .nil => .nil
  | _, _, .cons a _ c => .cons a c.shos
theorem Els.length {ok : Addr → Prop} {H : Hp} : ∀ {vs : List V} {ds : List PyData}, Els ok H vs ds → vs.length = ds.length
  | _, _, .nil => rfl
  | _, _, .cons _ _ c => by rw [List.length_cons, List.length_cons, c.length]
theorem Els.fits {ok : Addr → Prop} {H : Hp} : ∀ {vs : List V} {ds : List PyData}, Els ok H vs ds → FitAll (901 * ds.length) 15 ds
  | _, _, .nil => fitAll_nil
  | _, _, .cons _ b c => (FitAll.cons b c.fits).mono (by simp only [List.length_cons]; omega) (Nat.le_refl _)
theorem cut_drop {xs : List V} {k : Nat} : cutV xs (some (k : Int)) none = xs.drop k := by
  unfold cutV
  rw [HT.sIx_none, HT.sIx_nat]
  by_cases h : k ≤ xs.length
  · rw [Nat.min_eq_left h]
    exact List.take_of_length_le (by rw [List.length_drop]; exact Nat.le_refl _)
  · rw [Nat.min_eq_right (by omega), Nat.sub_self, List.take_zero]
    exact (List.drop_of_length_le (by omega)).symm
theorem ixN_nat {n k : Nat} (h : k < n) : ixN n (k : Int) = some k := by
  unfold ixN
  rw [if_pos (by omega), if_pos (by omega)]
  rfl
theorem Els.same {ok : Addr → Prop} {H H' : Hp} {vs : List V} {ds : List PyData} (h : Els ok H vs ds) (s : Same H H') : Els ok H' vs ds := h.map fun z => z.same s
theorem Els.but {p : Addr} {H H' : Hp} {vs : List V} {ds : List PyData} (h : Els (Apart p) H vs ds) (hp : PotAt H p) (b : But p H H') : Els (Apart p) H' vs ds := by
  obtain ⟨_, _, e, _⟩ := hp
  exact h.map fun z => z.but (fun _ o => o.1) e b
theorem newApart {p a : Addr} {H : Hp} (hp : PotAt H p) (z : NewAt H a) : Apart p a := by
  refine ⟨fun y => ?_, z.2⟩
  obtain ⟨_, _, e, _⟩ := hp
  rw [← y, z.1] at e
  cases e
section
variable {P : Program} {w : World} {K : PySem.W.Frag} {mg : Str → Option Value} {base : Heap}
def spSp : Sp := fun vs H Q _ => ∃ (p R S : Addr) (us hs : List V) (rows : List Row2) (ds : List PyData), vs = [.ref p, .ref R, .ref S] ∧ PotAt H p ∧ R ≠ p ∧ S ≠ p ∧ H R = some (.lst us) ∧ RowsAre H us rows ∧ 1 ≤ rows.length ∧ rows.length ≤ 20 ∧
  (∀ x ∈ fsts rows, nameV (.str x) = true) ∧ H S = some (.lst hs) ∧ Els (Apart p) H hs ds ∧ 1 ≤ hs.length ∧ hs.length ≤ 60 ∧
  ∀ H' L ws es, PotAt H' p → But p H H' → L ≠ p → L ≠ sysModules → H' L = some (.lst ws) → Els (Apart p) H' ws es → 1 ≤ ws.length → (ws.length ≤ 23 ∨ ws.length ≤ hs.length + 1) → Q (.ref L) H'
theorem ok_spoilt {f fD fB : Addr} {fd fdD fdB : FuncData} {k : Nat} (F : Fun K "_law_spoilt" "_law_spoilt" sSpoilt f fd) (low : sysModules < base.objs.size)
    (FD : Fun K "_law_draw" "_law_draw" sDraw fD fdD) (bD : Binds K fdD ["_law_pot_here", "_law_many"] []) (gD : mg "_law_draw" = some (.ref fD))
    (FB : Fun K "_law_bad_row" "_law_bad_row" sBad fB fdB) (bB : Binds K fdB ["_law_pot_here", "_law_rows"] []) (gB : mg "_law_bad_row" = some (.ref fB))
    (GD : FnOk P w K mg base CX0 (k + 1) fD fdD ["_law_pot_here", "_law_many"] spDraw) (GB : FnOk P w K mg base CX0 (k + 2) fB fdB ["_law_pot_here", "_law_rows"] spBad)
    (mL : mg "list" = none) (ml : mg "len" = none) (mx : mg "max" = none) :
    FnOk P w K mg base CX0 (k + 3) f fd ["_law_pot_here", "_law_rows", "_law_handed"] spSp := by
  refine F.ok scSp (fun vs H Q E h => ?_) (fun cdv A outer s H vs Q E hr h => ?_)
  · obtain ⟨p, R, S, us, hs, rows, ds, rfl, _⟩ := h
    rfl
  · obtain ⟨p, R, S, us, hs, rows, ds, rfl, hp, nRp, nSp, hR, hra, hr1, hr2, hnm, hS, hE, hl1, hl2, fin⟩ := h
    have hrD := hr.mono (by omega : k + 1 ≤ k + 2)
    refine ⟨_, pss_cons (ps_par3 (i := 3) (j := 4) (l := 5) (by rfl) scSp.nd rfl rfl rfl (by decide) (by decide) (by decide) rfl rfl rfl
        (pa_cons (pe_call GD hrD (by rfl) gD FD.kp bD .nil pass0 (pa_cons (pv 0) (pa_cons pe_int pa_nil)))
        (pa_cons (pe_call GD hrD (by rfl) gD FD.kp bD .nil pass0 (pa_cons (pv 0) (pa_cons (pe_callB call_len_seq (by rfl) ml PySem.boot_len (pa_cons (pv 2) pa_nil)) pa_nil)))
        (pa_cons (pe_call GD hrD (by rfl) gD FD.kp bD .nil pass0 (pa_cons (pv 0) (pa_cons (pe_callB call_len_seq (by rfl) ml PySem.boot_len (pa_cons (pv 2) pa_nil)) pa_nil))) pa_nil))) (by rfl))
      (pss_cons (ps_if (pt_cmpR op_lt (pv 3) pe_int (nomark _))
        (pss_one (ps_ret (pe_op (op_catN low) (pe_op op_cat (pe_slice sl_list (pv 2) po_none (po_some (pv 4))) (pe_lst (pa_cons (pe_call GB hr (by rfl) gB FB.kp bB .nil pass0 (pa_cons (pv 0) (pa_cons (pv 1) pa_nil))) pa_nil)))
          (pe_slice sl_list (pv 2) (po_some (pe_op op_add (pv 4) (pv 3))) po_none)))) pss_nil)
      (pss_cons (ps_if (pt_cmpR op_eq (pv 3) pe_int (nomark _))
        (pss_cons (ps_set (i := 6) scSp.nd rfl (.inl rfl) (pe_callTy (call_listN low) (by rfl) mL (by decide +kernel) (pa_cons (pv 2) pa_nil)))
        (pss_cons (ps_asg (pe_tup (pa_cons (pe_ix ix_list (pv 2) (pv 5) (fun _ _ => rfl)) (pa_cons (pe_ix ix_list (pv 2) (pv 4) (fun _ _ => rfl)) pa_nil)))
            (pg_tup rfl (pgs_cons (pg_sub (pv 6) (pv 4) set_list) (pgs_cons (pg_sub (pv 6) (pv 5) set_list) pgs_nil))))
        (pss_one (ps_ret (pv 6))))) pss_nil)
      (pss_cons (ps_if (pt_cmpR op_eq (pv 3) pe_int (nomark _))
        (pss_one (ps_ret (pe_op (op_catN low) (pe_op op_cat (pe_slice sl_list (pv 2) po_none (po_some (pv 4))) (pe_lst (pa_cons (pe_tup (pa_cons pe_str (pa_cons (pe_tup (pa_cons
            (pe_ix ix_tup (pe_ix ix_list (pv 1) (pe_call GD hrD (by rfl) gD FD.kp bD .nil pass0 (pa_cons (pv 0) (pa_cons (pe_callB call_len_seq (by rfl) ml PySem.boot_len (pa_cons (pv 1) pa_nil)) pa_nil))) (fun _ _ => rfl)) pe_int (fun _ _ => rfl)) pa_nil)) pa_nil))) pa_nil)))
          (pe_slice sl_list (pv 2) (po_some (pv 4)) po_none)))) pss_nil)
      (pss_cons (ps_if (pt_cmpR op_eq (pv 3) pe_int (nomark _))
        (pss_one (ps_ret (pe_op (op_catN low) (pv 2) (pe_lst (pa_cons (pe_ix ix_list (pv 2) (pv 4) (fun _ _ => rfl)) pa_nil))))) pss_nil)
      (pss_cons (ps_setLc (i := 7) (own := [("_law_letter", 8)]) (g := gName 8) (tt := tYes) rfl scSp.nd rfl rfl
            (sw_true rfl rfl rfl (by decide +kernel)) (pi_str pe_str)
            (blkOk_by (own := [("_law_letter", 8)]) (N := NSp) (sc := defScope sSpoilt) (by decide +kernel))
            (fun _ _ _ _ _ => pg_name (i := 8) scSp.nd rfl (Or.inl rfl)) (fun _ _ _ _ _ => pts_nil)
            (fun _ _ _ _ _ => pe_tup (pa_cons (pe_op op_add_str pe_str (pv 8)) (pa_cons (pe_tup pa_nil) pa_nil))))
      (pss_one (ps_ret (pe_op (op_catN low) (pv 2) (pe_slice sl_list (pv 7) po_none (po_some (pe_callB (call_max2 rfl) (by rfl) mx (by decide +kernel) (pa_cons pe_int (pa_cons
          (pe_op op_sub (pe_op op_add pe_int (pe_call GD hrD (by rfl) gD FD.kp bD .nil pass0 (pa_cons (pv 0) (pa_cons pe_int pa_nil)))) (pe_callB call_len_seq (by rfl) ml PySem.boot_len (pa_cons (pv 2) pa_nil))) pa_nil))))))))))))), ?_⟩
    refine ⟨.ref p, rfl, p, 6, rfl, hp, by decide, by decide, fun H1 w0 w1 w2 hp1 b1 => ?_⟩
    have S1 := b1 _ _ nSp hS
    refine ⟨.ref p, rfl, .ref S, rfl, S, hs, rfl, .inl (.inl (.inl S1)), p, _, rfl, hp1, by omega, by omega, fun H2 q0 q1 q2 hp2 b2 => ?_⟩
    have S2 := b2 _ _ nSp S1
    refine ⟨.ref p, rfl, .ref S, rfl, S, hs, rfl, .inl (.inl (.inl S2)), p, _, rfl, hp2, by omega, by omega, fun H3 o0 o1 o2 hp3 b3 => ?_⟩
    have S3 := b3 _ _ nSp S2
    have b03 : But p H H3 := (b1.trans b2).trans b3
    have R3 := b03 _ _ nRp hR
    have ra3 : RowsAre H3 us rows := ((hra.but hp b1).but hp1 b2).but hp2 b3
    have E3 : Els (Apart p) H3 hs ds := ((hE.but hp b1).but hp1 b2).but hp2 b3
    have lu := hra.length
    have dl := hE.length
    obtain ⟨kq, rfl⟩ := Int.eq_ofNat_of_zero_le q1
    obtain ⟨ko, rfl⟩ := Int.eq_ofNat_of_zero_le o1
    have kq2 : kq < hs.length := by omega
    have ko2 : ko < hs.length := by omega
    refine ⟨_, _, _, rfl, ?_⟩
    have sE : ∀ {G : Hp}, Same H3 G → Els (Apart p) G hs ds := fun z => E3.same z
    have sB : ∀ {G : Hp}, Same H3 G → But p H G := fun z => b03.trans (But.of_same z)
    have splitE : ∀ {G : Hp} {v : V} {d : PyData} {i j : Nat}, Els (Apart p) G hs ds → ShO (Apart p) G v d → Fit 900 15 d → Els (Apart p) G (hs.take i ++ [v] ++ hs.drop j) (ds.take i ++ [d] ++ ds.drop j) := by
      intro G v d i j h1 h2 h3
      exact ((h1.split i).1.append (.cons h2 h3 .nil)).append (h1.split j).2
    have splitL : ∀ {v : V} {i j : Nat}, i < hs.length → i ≤ j → (hs.take i ++ [v] ++ hs.drop j).length ≤ hs.length + 1 ∧ 1 ≤ (hs.take i ++ [v] ++ hs.drop j).length := by
      intro v i j h1 h2
      rw [List.length_append, List.length_append, List.length_take, List.length_drop, List.length_singleton]
      omega
    have newP : ∀ {G : Hp} {a : Addr}, PotAt G p → G a = none → a ≠ p := by
      intro G a hG na z
      obtain ⟨_, _, e, _⟩ := hG
      rw [z, e] at na
      cases na
    by_cases hw : w0 < 2
    · obtain ⟨kw, rfl⟩ := Int.eq_ofNat_of_zero_le w1
      refine ⟨.int (kw : Nat), rfl, _, _, rfl, rfl, _, rfl, ?_⟩
      rw [decide_eq_true hw]
      refine iteT ?_
      refine ⟨.ref S, rfl, .int (kq : Nat), rfl, _, rfl, S, hs, rfl, .inl (.inl S3), fun c1 n1 => ?_⟩
      rw [show cutV hs none (some ((kq : Nat) : Int)) = hs.take kq from cut_take]
      have t1 := same_new (o := .lst (hs.take kq)) n1
      have a1 : (upd H3 c1 (.lst (hs.take kq))) c1 = some (.lst (hs.take kq)) := upd_same
      have k1 := newP hp3 n1
      generalize upd H3 c1 (.lst (hs.take kq)) = G1 at t1 a1 ⊢
      refine ⟨.ref p, rfl, .ref R, rfl, p, R, us, rows, rfl, hp3.same t1, nRp, t1 _ _ R3, ra3.same t1, hr1, hr2, hnm, fun H4 v d hp4 b4 sv fv => ?_⟩
      have sv2 : ShO (Apart p) H4 v d := ShO.mono (fun a z => newApart (hp3.same t1) z) sv
      refine ⟨(show 1 ≤ sizeLine from by decide), fun c2 n2 => ?_⟩
      have t2 := same_new (o := .lst [v]) n2
      have a2 : (upd H4 c2 (.lst [v])) c2 = some (.lst [v]) := upd_same
      generalize upd H4 c2 (.lst [v]) = G2 at t2 a2 ⊢
      have a12 := t2 _ _ (b4 _ _ k1 a1)
      have S4 := t2 _ _ (b4 _ _ nSp (t1 _ _ S3))
      refine ⟨c1, c2, _, _, rfl, rfl, a12, a2, ?_, fun c3 n3 => ?_⟩
      · rw [List.length_take]
        exact szle (by simp only [List.length_singleton]; omega)
      have t3 := same_new (o := .lst (hs.take kq ++ [v])) n3
      have a3 : (upd G2 c3 (.lst (hs.take kq ++ [v]))) c3 = some (.lst (hs.take kq ++ [v])) := upd_same
      generalize upd G2 c3 (.lst (hs.take kq ++ [v])) = G3 at t3 a3 ⊢
      refine ⟨.ref S, rfl, .int (kq : Nat), rfl, .int (kw : Nat), rfl, _, _, rfl, rfl, _, rfl, S, hs, rfl, .inl (.inl (t3 _ _ S4)), fun c4 n4 => ?_⟩
      rw [show cutV hs (some (((kq : Nat) : Int) + ((kw : Nat) : Int))) none = hs.drop (kq + kw) from by rw [show ((kq : Nat) : Int) + ((kw : Nat) : Int) = ((kq + kw : Nat) : Int) from by omega]; exact cut_drop]
      have t4 := same_new (o := .lst (hs.drop (kq + kw))) n4
      have a4 : (upd G3 c4 (.lst (hs.drop (kq + kw)))) c4 = some (.lst (hs.drop (kq + kw))) := upd_same
      generalize upd G3 c4 (.lst (hs.drop (kq + kw))) = G4 at t4 a4 ⊢
      have sl := splitL (v := v) (j := kq + kw) kq2 (by omega)
      refine ⟨c3, c4, _, _, rfl, rfl, t4 _ _ a3, a4, ?_, fun L nL zL => ?_⟩
      · have := sl.1
        rw [List.length_append] at this
        exact szle (by omega)
      have t5 := same_new (o := .lst (hs.take kq ++ [v] ++ hs.drop (kq + kw))) nL
      have s45 : Same H4 (upd G4 L (.lst (hs.take kq ++ [v] ++ hs.drop (kq + kw)))) := t2.trans (t3.trans (t4.trans t5))
      have E4 : Els (Apart p) H4 hs ds := (sE t1).but (hp3.same t1) b4
      refine fin _ L _ (ds.take kq ++ [d] ++ ds.drop (kq + kw)) (hp4.same s45) (((sB t1).trans b4).trans (But.of_same s45)) (newP ((hp4.same t2).same (t3.trans t4)) nL) zL upd_same ?_ sl.2 (.inr sl.1)
      exact splitE (E4.same s45) (sv2.same s45) (fv.mono (by decide) (by decide))
    · refine ⟨.int w0, rfl, _, _, rfl, rfl, _, rfl, ?_⟩
      rw [decide_eq_false hw]
      refine iteF ?_
      have hq : hs[kq]? = some hs[kq] := List.getElem?_eq_getElem kq2
      have ho : hs[ko]? = some hs[ko] := List.getElem?_eq_getElem ko2
      generalize hs[kq] = xq at hq
      generalize hs[ko] = xo at ho
      have : w0 = 2 ∨ w0 = 3 ∨ w0 = 4 ∨ w0 = 5 := by omega
      rcases this with rfl | rfl | rfl | rfl
      · refine ⟨.int 2, rfl, rfl, _, rfl, ifI_eq ?_⟩
        refine ⟨.ref S, rfl, S, hs, rfl, .inl (.inl S3), fun c nc zc => ?_⟩
        have t1 := same_new (o := .lst hs) nc
        have a1 : (upd H3 c (.lst hs)) c = some (.lst hs) := upd_same
        have k1 := newP hp3 nc
        generalize upd H3 c (.lst hs) = G1 at t1 a1 ⊢
        refine ⟨.ref S, rfl, .int (ko : Nat), rfl, S, hs, _, xo, rfl, rfl, .inl (.inl (t1 _ _ S3)), atI_nat ho, .ref S, rfl, .int (kq : Nat), rfl, S, hs, _, xq, rfl, rfl, .inl (.inl (t1 _ _ S3)), atI_nat hq, (by decide : 2 ≤ sizeLine), fun t nt => ?_⟩
        have t2 := same_new (o := .tup [xo, xq]) nt
        have a2 : (upd G1 t (.tup [xo, xq])) t = some (.tup [xo, xq]) := upd_same
        generalize upd G1 t (.tup [xo, xq]) = G2 at t2 a2 ⊢
        have a12 := t2 _ _ a1
        refine ⟨t, _, rfl, .inl (.inl a2), rfl, _, _, rfl, .ref c, rfl, .int (kq : Nat), rfl, c, hs, _, kq, rfl, rfl, a12, ixN_nat kq2, _, _, rfl, .ref c, rfl, .int (ko : Nat), rfl, c, hs.set kq xo, _, ko, rfl, rfl, upd_same, ?_, rfl, .ref c, rfl, ?_⟩
        · exact ixN_nat (by rw [List.length_set]; exact ko2)
        · have sF : Same H3 (upd (upd G2 c (.lst (hs.set kq xo))) c (.lst ((hs.set kq xo).set ko xq))) := by
            intro b o e
            have nb := ne_of_none e nc
            rw [upd_ne nb, upd_ne nb]
            exact t2 _ _ (t1 _ _ e)
          obtain ⟨dq, hdq, sq, fq⟩ := (sE sF).get hq
          obtain ⟨do', hdo, so, fo⟩ := (sE sF).get ho
          refine fin _ c _ ((ds.set kq do').set ko dq) (hp3.same sF) (sB sF) k1 zc upd_same (((sE sF).set so fo kq).set sq fq ko) ?_ (.inr ?_)
          · rw [List.length_set, List.length_set]
            exact hl1
          · rw [List.length_set, List.length_set]
            omega
      · refine ⟨.int 3, rfl, rfl, _, rfl, ifI_ne (by decide) ⟨.int 3, rfl, rfl, _, rfl, ifI_eq ?_⟩⟩
        refine ⟨.ref S, rfl, .int (kq : Nat), rfl, _, rfl, S, hs, rfl, .inl (.inl S3), fun c1 n1 => ?_⟩
        rw [show cutV hs none (some ((kq : Nat) : Int)) = hs.take kq from cut_take]
        have t1 := same_new (o := .lst (hs.take kq)) n1
        have a1 : (upd H3 c1 (.lst (hs.take kq))) c1 = some (.lst (hs.take kq)) := upd_same
        have k1 := newP hp3 n1
        generalize upd H3 c1 (.lst (hs.take kq)) = G1 at t1 a1 ⊢
        refine ⟨.ref R, rfl, .ref p, rfl, .ref R, rfl, R, us, rfl, .inl (.inl (.inl (t1 _ _ R3))), p, _, rfl, hp3.same t1, by omega, by omega, fun H4 j j1 j2 hp4 b4 => ?_⟩
        have jl : j.toNat < us.length := by omega
        obtain ⟨v0, hv0⟩ : ∃ v0, us[j.toNat]? = some v0 := ⟨_, List.getElem?_eq_getElem jl⟩
        have ra4 := (ra3.same t1).but (hp3.same t1) b4
        obtain ⟨⟨lb, ss⟩, hrow, t0, sA, rfl, ht0, hsA⟩ := ra4.get hv0
        have hat : atI us j = some (.ref t0) := by
          have e : ((j.toNat : Nat) : Int) = j := by omega
          rw [← e]
          exact atI_nat hv0
        have hlb : Sm 8 lb := name_sm (hnm lb (List.mem_map.mpr ⟨_, List.mem_of_getElem? hrow, rfl⟩))
        refine ⟨R, us, j, .ref t0, rfl, rfl, .inl (.inl (b4 _ _ nRp (t1 _ _ R3))), hat, t0, _, 0, .str lb, rfl, rfl, .inl (.inl ht0), atI_nat (j := 0) rfl, (by decide : 1 ≤ sizeLine), fun c5 n5 => ?_⟩
        have t5 := same_new (o := .tup [.str lb]) n5
        have a5 : (upd H4 c5 (.tup [.str lb])) c5 = some (.tup [.str lb]) := upd_same
        generalize upd H4 c5 (.tup [.str lb]) = G5 at t5 a5 ⊢
        refine ⟨(by decide : 2 ≤ sizeLine), fun c6 n6 => ?_⟩
        have t6 := same_new (o := .tup [.str "abc", .ref c5]) n6
        have a6 : (upd G5 c6 (.tup [.str "abc", .ref c5])) c6 = some (.tup [.str "abc", .ref c5]) := upd_same
        generalize upd G5 c6 (.tup [.str "abc", .ref c5]) = G6 at t6 a6 ⊢
        refine ⟨(by decide : 1 ≤ sizeLine), fun c2 n2 => ?_⟩
        have t2 := same_new (o := .lst [.ref c6]) n2
        have a2 : (upd G6 c2 (.lst [.ref c6])) c2 = some (.lst [.ref c6]) := upd_same
        generalize upd G6 c2 (.lst [.ref c6]) = G2 at t2 a2 ⊢
        have s42 := t5.trans (t6.trans t2)
        have a12 := s42 _ _ (b4 _ _ k1 a1)
        have S4 := s42 _ _ (b4 _ _ nSp (t1 _ _ S3))
        refine ⟨c1, c2, _, _, rfl, rfl, a12, a2, ?_, fun c3 n3 => ?_⟩
        · rw [List.length_take]
          exact szle (by simp only [List.length_singleton]; omega)
        have t3 := same_new (o := .lst (hs.take kq ++ [.ref c6])) n3
        have a3 : (upd G2 c3 (.lst (hs.take kq ++ [.ref c6]))) c3 = some (.lst (hs.take kq ++ [.ref c6])) := upd_same
        generalize upd G2 c3 (.lst (hs.take kq ++ [.ref c6])) = G3 at t3 a3 ⊢
        refine ⟨.ref S, rfl, .int (kq : Nat), rfl, _, rfl, S, hs, rfl, .inl (.inl (t3 _ _ S4)), fun c4 n4 => ?_⟩
        rw [show cutV hs (some ((kq : Nat) : Int)) none = hs.drop kq from cut_drop]
        have t4 := same_new (o := .lst (hs.drop kq)) n4
        have a4 : (upd G3 c4 (.lst (hs.drop kq))) c4 = some (.lst (hs.drop kq)) := upd_same
        generalize upd G3 c4 (.lst (hs.drop kq)) = G4 at t4 a4 ⊢
        have sl := splitL (v := .ref c6) (j := kq) kq2 (Nat.le_refl _)
        refine ⟨c3, c4, _, _, rfl, rfl, t4 _ _ a3, a4, ?_, fun L nL zL => ?_⟩
        · have := sl.1
          rw [List.length_append] at this
          exact szle (by omega)
        have t7 := same_new (o := .lst (hs.take kq ++ [.ref c6] ++ hs.drop kq)) nL
        have s27 := t3.trans (t4.trans t7)
        have s47 := s42.trans s27
        have E4 : Els (Apart p) H4 hs ds := (sE t1).but (hp3.same t1) b4
        have sma : Sm 10 ("abc" : Str) := ⟨by decide +kernel, by decide +kernel⟩
        have sv : ShO (Apart p) (upd G4 L (.lst (hs.take kq ++ [.ref c6] ++ hs.drop kq))) (.ref c6) (.tuple [.str "abc", .tuple [.str lb]]) :=
          .tup (s27 _ _ (t2 _ _ a6)) (.cons (.str _) (.cons (.tup (s27 _ _ (t2 _ _ (t6 _ _ a5))) (.cons (.str _) .nil)) .nil))
        have fv : Fit 900 15 (.tuple [.str "abc", .tuple [.str lb]]) := (Fit.tup (FitAll.cons (sma.fit.mono (Nat.le_refl _) (Nat.zero_le 3)) (FitAll.cons (Fit.tup (FitAll.cons (hlb.fit.mono (Nat.le_refl _) (Nat.zero_le 2)) fitAll_nil)) fitAll_nil))).mono (by decide) (by decide)
        refine fin _ L _ (ds.take kq ++ [.tuple [.str "abc", .tuple [.str lb]]] ++ ds.drop kq) (hp4.same s47) (((sB t1).trans b4).trans (But.of_same s47)) (newP ((hp4.same s42).same (t3.trans t4)) nL) zL upd_same ?_ sl.2 (.inr sl.1)
        exact splitE (E4.same s47) sv fv
      · refine ⟨.int 4, rfl, rfl, _, rfl, ifI_ne (by decide) ⟨.int 4, rfl, rfl, _, rfl, ifI_ne (by decide) ⟨.int 4, rfl, rfl, _, rfl, ifI_eq ?_⟩⟩⟩
        refine ⟨.ref S, rfl, .ref S, rfl, .int (kq : Nat), rfl, S, hs, _, xq, rfl, rfl, .inl (.inl S3), atI_nat hq, (show 1 ≤ sizeLine from by decide), fun c2 n2 => ?_⟩
        have t2 := same_new (o := .lst [xq]) n2
        have a2 : (upd H3 c2 (.lst [xq])) c2 = some (.lst [xq]) := upd_same
        generalize upd H3 c2 (.lst [xq]) = G2 at t2 a2 ⊢
        refine ⟨S, c2, _, _, rfl, rfl, t2 _ _ S3, a2, szle (by simp only [List.length_singleton]; omega), fun L nL zL => ?_⟩
        have t3 := same_new (o := .lst (hs ++ [xq])) nL
        have sF := t2.trans t3
        obtain ⟨dq, hdq, sq, fq⟩ := (sE sF).get hq
        refine fin _ L _ (ds ++ [dq]) (hp3.same sF) (sB sF) (newP (hp3.same t2) nL) zL upd_same ((sE sF).append (.cons sq fq .nil)) ?_ (.inr ?_)
        · rw [List.length_append]
          omega
        · rw [List.length_append]
          exact Nat.le_refl _
      · refine ⟨.int 5, rfl, rfl, _, rfl, ifI_ne (by decide) ⟨.int 5, rfl, rfl, _, rfl, ifI_ne (by decide) ⟨.int 5, rfl, rfl, _, rfl, ifI_ne (by decide) ?_⟩⟩⟩
        refine ⟨_, rfl, fun D nD => ?_⟩
        have kD := newP hp3 nD
        have smz : Sm 2 ("zz" : Str) := ⟨by decide +kernel, by decide +kernel⟩
        refine lc_it walk_str (fun i G => ∃ (ws : List V) (es : List PyData), G D = some (.lst ws) ∧ Els (fun _ => False) G ws es ∧ ws.length = i ∧ i ≤ 26 ∧ Same H3 G) ⟨[], [], upd_same, .nil, rfl, by decide, same_new nD⟩ (fun _ _ _ _ => trivial) (fun i y G G' hi hP hY => ?_) (fun G hP => ?_)
        · obtain ⟨rfl, c, hc, rfl⟩ := hY
          obtain ⟨ws, es, e1, e2, e3, e4, e5⟩ := hP
          have hi2 : i < 26 := by
            have : ("abcdefghijklmnopqrstuvwxyz" : Str).length = 26 := by decide +kernel
            have h : i < ("abcdefghijklmnopqrstuvwxyz" : Str).length := hi
            omega
          have hcm : c < 128 := by
            have : ∀ z ∈ ("abcdefghijklmnopqrstuvwxyz" : Str).cps.toList, z < 128 := by decide +kernel
            refine this c (List.mem_of_getElem? (i := i) ?_)
            rw [Array.getElem?_toList]
            exact hc
          have smc : Sm 1 ⟨#[c]⟩ := ⟨Nat.le_refl _, fun z hz => by
            obtain rfl : z = c := by simpa using hz
            exact hcm⟩
          refine ⟨rfl, .str ⟨#[c]⟩, rfl, _, _, rfl, rfl, smz.le2 smc, (by decide : 0 ≤ sizeLine), fun t1 m1 => ?_⟩
          have u1 := same_new (o := .tup []) m1
          have v1 : (upd G' t1 (.tup [])) t1 = some (.tup []) := upd_same
          generalize upd G' t1 (.tup []) = G1 at u1 v1 ⊢
          refine ⟨(by decide : 2 ≤ sizeLine), fun t2 m2 => ?_⟩
          have u2 := same_new (o := .tup [.str ("zz" ++ ⟨#[c]⟩), .ref t1]) m2
          have v2 : (upd G1 t2 (.tup [.str ("zz" ++ ⟨#[c]⟩), .ref t1])) t2 = some (.tup [.str ("zz" ++ ⟨#[c]⟩), .ref t1]) := upd_same
          generalize upd G1 t2 (.tup [.str ("zz" ++ ⟨#[c]⟩), .ref t1]) = G2 at u2 v2 ⊢
          have u12 := u1.trans u2
          have D2 := u12 _ _ e1
          refine ⟨ws, D2, sz1 (by omega), ws ++ [.ref t2], es ++ [.tuple [.str ("zz" ++ ⟨#[c]⟩), .tuple []]], upd_same, ?_, ?_, by omega, ?_⟩
          · have nt1 : t1 ≠ D := fun z => by
              rw [z, e1] at m1
              cases m1
            have nt2 : t2 ≠ D := fun z => by
              rw [z, u1 _ _ e1] at m2
              cases m2
            have stay : Els (fun _ => False) (upd G2 D (.lst (ws ++ [.ref t2]))) ws es := by
              refine (e2.same u12).map fun z => z.keep (fun a xs o e => o.elim) (fun a xs e => ?_) (fun a xs e => ?_)
              · rw [upd_ne (ne_of e D2 (by intro z; cases z))]
                exact e
              · rw [upd_ne (ne_of e D2 (by intro z; cases z))]
                exact e
            exact stay.append (.cons (.tup (by rw [upd_ne nt2]; exact v2) (.cons (.str _) (.cons (.tup (by rw [upd_ne nt1]; exact u2 _ _ v1) .nil) .nil)))
              ((Fit.tup (FitAll.cons ((smz.app smc).fit.mono (Nat.le_refl _) (Nat.zero_le 3)) (FitAll.cons (Fit.tup (m := 2) fitAll_nil) fitAll_nil))).mono (by decide) (by decide)) .nil)
          · rw [List.length_append, e3]
            rfl
          · intro b o hb
            rw [upd_ne (ne_of_none hb nD)]
            exact u12 _ _ (e5 _ _ hb)
        · obtain ⟨ws, es, e1, e2, e3, e4, e5⟩ := hP
          refine ⟨.ref S, rfl, .ref D, rfl, .ref p, rfl, p, 4, rfl, hp3.same e5, by decide, by decide, fun H5 m0 m1 m2 hp5 b5 => ?_⟩
          have S5 := b5 _ _ nSp (e5 _ _ S3)
          have D5 := b5 _ _ kD e1
          refine ⟨_, _, rfl, rfl, .ref S, rfl, S, hs, rfl, .inl (.inl (.inl S5)), _, _, rfl, rfl, _, _, rfl, _, rfl, D, ws, rfl, .inl (.inl D5), fun c nc => ?_⟩
          obtain ⟨km, hkm, hkl⟩ : ∃ km : Nat, (if (20 + m0 - (hs.length : Int)) > 0 then (20 + m0 - (hs.length : Int)) else 0) = (km : Int) ∧ (hs.length ≤ 23 → hs.length + km ≤ 23) ∧ (23 ≤ hs.length → km = 0) := by
            refine ⟨(if (20 + m0 - (hs.length : Int)) > 0 then (20 + m0 - (hs.length : Int)) else 0).toNat, ?_, ?_, ?_⟩
            · split <;> omega
            · intro _
              split <;> omega
            · intro _
              split <;> omega
          rw [hkm, show cutV ws none (some ((km : Nat) : Int)) = ws.take km from cut_take]
          have t4 := same_new (o := .lst (ws.take km)) nc
          have a4 : (upd H5 c (.lst (ws.take km))) c = some (.lst (ws.take km)) := upd_same
          generalize upd H5 c (.lst (ws.take km)) = G4 at t4 a4 ⊢
          refine ⟨S, c, _, _, rfl, rfl, t4 _ _ S5, a4, ?_, fun L nL zL => ?_⟩
          · rw [List.length_take]
            exact szle (by omega)
          have t5 := same_new (o := .lst (hs ++ ws.take km)) nL
          have s55 := t4.trans t5
          have E5 : Els (Apart p) H5 hs ds := (sE e5).but (hp3.same e5) b5
          have W5 : Els (Apart p) H5 ws es := (e2.map fun z => ShO.mono (fun a (o : False) => o.elim) z : Els (Apart p) G ws es).but (hp3.same e5) b5
          refine fin _ L _ (ds ++ es.take km) (hp5.same s55) (((sB e5).trans b5).trans (But.of_same s55)) (newP (hp5.same t4) nL) zL upd_same (((E5.same s55)).append ((W5.same s55).split km).1) ?_ ?_
          · rw [List.length_append]
            omega
          · rw [List.length_append, List.length_take]
            by_cases h23 : hs.length ≤ 23
            · have := hkl.1 h23
              exact .inl (by omega)
            · have := hkl.2 (by omega)
              exact .inr (by omega)
end
end Lw
namespace Lw
open PySem PySem.Spec PyProof.Rows L2 Kv
abbrev NLaw : List Str := ["_law_script", "_law_k", "_law_pot_here", "_law_rows", "_law_turn", "_law_handed", "_law_step", "_law_thing"]
theorem scLaw : FnScope NLaw ["_law_script"] (defScope sLaw) :=
  ⟨rfl, rfl, rfl, by decide +kernel, rfl, by decide +kernel, by decide +kernel⟩
def rowDt (r : Row2) : PyData := .tuple [.str r.1, .tuple (r.2.map PyData.str)]
theorem sho_strs {ok : Addr → Prop} {H : Hp} : ∀ xs : List Str, ShOs ok H (xs.map V.str) (xs.map PyData.str)
  | [] => .nil
  | x :: r => .cons (.str x) (sho_strs r)
theorem rows_els {ok : Addr → Prop} {H : Hp} : ∀ {us : List V} {rows : List Row2}, RowsAre H us rows → (∀ r ∈ rows, nameV (.str r.1) = true ∧ (∀ s ∈ r.2, nameV (.str s) = true) ∧ r.2.length ≤ 20) → Els ok H us (rows.map rowDt)
  | _, _, .nil, _ => .nil
  | _, _, .cons (b := r) ⟨t, sA, e, h1, h2⟩ b, h => by
    subst e
    obtain ⟨g1, g2, g3⟩ := h r (List.mem_cons_self ..)
    refine .cons (.tup h1 (.cons (.str _) (.cons (.tup h2 (sho_strs _)) .nil))) ?_ (rows_els b fun r hr => h r (List.mem_cons_of_mem _ hr))
    exact (Fit.tup (FitAll.cons ((name_sm g1).fit.mono (Nat.le_refl _) (Nat.zero_le 4)) (FitAll.cons (Fit.tup (fit_strs g2)) fitAll_nil))).mono (by omega) (by decide)
theorem valid_names {rows : List Row2} (v : Valid rows) : ∀ x ∈ fsts rows, nameV (.str x) = true := by
  intro x hx
  obtain ⟨r, hr, rfl⟩ := List.mem_map.mp hx
  obtain ⟨i, hi, e⟩ := List.getElem_of_mem hr
  exact (v i r.1 r.2 (by rw [List.getElem?_eq_getElem hi, e])).1
theorem valid_rows {rows : List Row2} (v : Valid rows) (hl : rows.length ≤ 20) : ∀ r ∈ rows, nameV (.str r.1) = true ∧ (∀ s ∈ r.2, nameV (.str s) = true) ∧ r.2.length ≤ 20 := by
  intro r hr
  obtain ⟨i, hi, e⟩ := List.getElem_of_mem hr
  obtain ⟨h1, h2, h3, h4⟩ := v i r.1 r.2 (by rw [List.getElem?_eq_getElem hi, e])
  refine ⟨h1, fun s hs => valid_names v s ?_, ?_⟩
  · obtain ⟨q, hq, e2⟩ := List.mem_map.mp (h4 s hs)
    exact List.mem_map.mpr ⟨q, List.mem_of_mem_take hq, e2⟩
  · have := nodup_le h3 h4
    unfold fsts at this
    rw [List.length_map, List.length_take] at this
    omega
theorem ShO.there {ok : Addr → Prop} {H : Hp} : ∀ {v : V} {d : PyData}, ShO ok H v d → ShO (fun a => ok a ∧ H a ≠ none) H v d := by
  intro v d s
  exact ShO.rec (motive_1 := fun v d _ => ShO (fun a => ok a ∧ H a ≠ none) H v d) (motive_2 := fun vs ds _ => ShOs (fun a => ok a ∧ H a ≠ none) H vs ds) .non .bl .int .str
    (fun h1 h2 _ ih => .lst h1 ⟨h2, by rw [h1]; intro z; cases z⟩ ih) (fun h1 _ ih => .tup h1 ih) (fun h1 _ _ i1 i2 => .dict h1 i1 i2) .nil (fun _ _ i1 i2 => .cons i1 i2) s
theorem Els.fitMem {ok : Addr → Prop} {H : Hp} : ∀ {vs : List V} {ds : List PyData}, Els ok H vs ds → ∀ d ∈ ds, Fit 900 15 d
  | _, _, .nil, d, hd => nomatch hd
  | _, _, .cons _ b c, d, hd => by
    rcases List.mem_cons.mp hd with z | z
    · rw [z]
      exact b
    · exact c.fitMem d z
section
variable {P : Program} {w : World} {K : PySem.W.Frag} {mg : Str → Option Value} {base : Heap}
def spLaw (K : PySem.W.Frag) : Sp := fun vs H Q _ => ∃ (a : Addr) (ns : List Int), vs = [.ref a] ∧ SqL K H a (ns.map V.int) ∧ ns.length ≤ 63 ∧ ∀ H', Q (.bl true) H'
theorem ok_law {f fP fK fD fS fR : Addr} {fd fdP fdK fdD fdS fdR : FuncData} (F : Fun K "law" "law" sLaw f fd) (low : sysModules < base.objs.size)
    (FP : Fun K "_law_pot" "_law_pot" sPot fP fdP) (bP : Binds K fdP ["_law_script", "_law_k"] []) (gP : mg "_law_pot" = some (.ref fP))
    (FK : Fun K "_law_kinds" "_law_kinds" sKinds fK fdK) (bK : Binds K fdK ["_law_pot_here", "_law_most"] []) (gK : mg "_law_kinds" = some (.ref fK))
    (FD : Fun K "_law_draw" "_law_draw" sDraw fD fdD) (bD : Binds K fdD ["_law_pot_here", "_law_many"] []) (gD : mg "_law_draw" = some (.ref fD))
    (FS : Fun K "_law_spoilt" "_law_spoilt" sSpoilt fS fdS) (bS : Binds K fdS ["_law_pot_here", "_law_rows", "_law_handed"] []) (gS : mg "_law_spoilt" = some (.ref fS))
    (FR : Fun K "_law_right" "_law_right" sRight fR fdR) (bR : Binds K fdR ["_law_handed"] []) (gR : mg "_law_right" = some (.ref fR))
    (GP : FnOk P w K mg base CX0 1 fP fdP ["_law_script", "_law_k"] (spPot K)) (GK : FnOk P w K mg base CX0 4 fK fdK ["_law_pot_here", "_law_most"] spKinds)
    (GD : FnOk P w K mg base CX0 1 fD fdD ["_law_pot_here", "_law_many"] spDraw) (GS : FnOk P w K mg base CX0 3 fS fdS ["_law_pot_here", "_law_rows", "_law_handed"] spSp)
    (GR : FnG P w K mg base CX0 7 fR fdR ["_law_handed"] (spRight K))
    (mr : mg "range" = none) (mx : mg "max" = none) (mn : mg "min" = none) (ml : mg "len" = none) (ma : mg "all" = none) (mL : mg "list" = none) (mT : mg "tuple" = none) :
    FnG P w K mg base CX0 8 f fd ["_law_script"] (spLaw K) := by
  refine okG F scLaw (fun vs H Q E h => ?_) (fun cdv A outer s H vs Q E hg hr h => ?_)
  · obtain ⟨a, ns, rfl, _⟩ := h
    rfl
  · obtain ⟨a, ns, rfl, hS, hlen, q⟩ := h
    have hr1 := hr.mono (by decide : 1 ≤ 7)
    have hr3 := hr.mono (by decide : 3 ≤ 7)
    have hr4 := hr.mono (by decide : 4 ≤ 7)
    refine ⟨_, pss_cons (ps_for PassesOwn.never rfl (pi_range1 rfl mr (pa_cons
          (pe_callB (call_max2 rfl) (by rfl) mx (by decide +kernel) (pa_cons pe_int (pa_cons
            (pe_callB (call_min2 rfl) (by rfl) mn (by decide +kernel) (pa_cons (pe_callB call_len_seq (by rfl) ml PySem.boot_len (pa_cons (pv 0) pa_nil)) (pa_cons pe_int pa_nil))) pa_nil))) pa_nil))
        (pg_name (i := 1) scLaw.nd rfl (.inl rfl))
        (pss_cons (ps_set (i := 2) scLaw.nd rfl (.inl rfl) (pe_call GP hr1 (by rfl) gP FP.kp bP .nil pass0 (pa_cons (pv 0) (pa_cons (pv 1) pa_nil))))
        (pss_cons (ps_set (i := 3) scLaw.nd rfl (.inl rfl) (pe_call GK hr4 (by rfl) gK FK.kp bK .nil pass0 (pa_cons (pv 2) (pa_cons pe_int pa_nil))))
        (pss_one (ps_for PassesOwn.never rfl (pi_range1 rfl mr (pa_cons pe_int pa_nil)) (pg_name (i := 4) scLaw.nd rfl (.inl rfl))
          (pss_cons (ps_set (i := 5) scLaw.nd rfl (.inl rfl) (pe_callTy (call_listN low) (by rfl) mL (by decide +kernel) (pa_cons (pv 3) pa_nil)))
          (pss_cons (ps_for PassesOwn.never rfl (pi_range1 rfl mr (pa_cons (pe_call GD hr1 (by rfl) gD FD.kp bD .nil pass0 (pa_cons (pv 2) (pa_cons pe_int pa_nil))) pa_nil)) (pg_name (i := 6) scLaw.nd rfl (.inl rfl))
            (pss_one (ps_set (i := 5) scLaw.nd rfl (.inl rfl) (pe_call GS hr3 (by rfl) gS FS.kp bS .nil pass0 (pa_cons (pv 2) (pa_cons (pv 3) (pa_cons (pv 5) pa_nil)))))))
          (pss_one (ps_if (PW.pt (pw_or (pt_not (pt_val (pe_callG GR hg hr (by rfl) gR FR.kp bR .nil pass0 (pa_cons (pv 5) pa_nil))))
            (pw_or1 (pt_not (pt_val (pe_callG GR hg hr (by rfl) gR FR.kp bR .nil pass0 (pa_cons (pe_callTy call_tuple_of (by rfl) mT (by decide +kernel) (pa_cons (pv 5) pa_nil)) pa_nil)))))))
            (pss_one (ps_ret pe_bl)) pss_nil)))))))))
      (pss_one (ps_ret (pe_callB (cr_all rfl) (by rfl) ma (by decide +kernel) (pa_cons
            (pe_lc (own := [("_law_thing", 7)]) (g := gName 7) (tt := tYes) rfl scLaw.nd (pi_list (pe_lst (pa_cons pe_non (pa_cons pe_int (pa_cons pe_int (pa_cons pe_bl (pa_cons pe_str (pa_cons pe_str (pa_cons pe_dnewK
                (pa_cons (pe_disp (pps_cons pe_str (pe_tup pa_nil) pps_nil) (by rfl) (by rfl) (fun z => by cases z) (by decide))
                (pa_cons (pe_lstN low (pa_cons (pe_tup pa_nil) pa_nil)) (pa_cons (pe_lstN low (pa_cons (pe_lstN low pa_nil) pa_nil)) (pa_cons (pe_lstN low (pa_cons pe_non pa_nil)) pa_nil)))))))))))))
              (blkOk_by (own := [("_law_thing", 7)]) (N := NLaw) (sc := defScope sLaw) (by decide +kernel))
              (fun _ _ _ _ _ => pg_name (i := 7) scLaw.nd rfl (Or.inl rfl)) (fun _ _ _ _ _ => pts_nil)
              (fun _ _ _ _ _ => pe_callG GR hg hr (by rfl) gR FR.kp bR .nil pass0 (pa_cons (pv 7) pa_nil))) pa_nil)))), ?_⟩
    refine ⟨.ref a, rfl, a, _, rfl, .inl hS, _, _, rfl, _, _, rfl, _, rfl, ?_, ?_, ?_⟩
    · rw [List.length_map]
      split <;> split <;> omega
    · rw [List.length_map]
      split <;> split <;> omega
    · refine for_range (fun i σ H6 => ∃ y1 y2 y3 y4 y5 y6, σ = [some (.ref a), y1, y2, y3, y4, y5, y6, none] ∧ i ≤ 100 ∧ Same H H6)
        ⟨none, none, none, none, none, none, rfl, by decide, Same.refl _⟩ (fun i σ H6 hi hP => ?_) (fun σ H6 hP => ?_)
      · obtain ⟨y1, y2, y3, y4, y5, y6, rfl, hi2, s6⟩ := hP
        have hi3 : i < 100 := by
          rw [List.length_map] at hi
          revert hi
          split <;> split <;> omega
        refine ⟨.ref a, rfl, .int (0 + (i : Int)), rfl, a, ns, i, by rw [Int.zero_add]; rfl, s6.seq hS, by omega, fun p H7 s7 np hp => ?_⟩
        have np0 : H p = none := s6.free np
        have s07 := s6.trans s7
        refine ⟨.ref p, rfl, p, 18, rfl, hp, by decide, by decide, fun H8 R us rows hp8 b8 nR neR eR era eva l1 l2 => ?_⟩
        have s08 : Same H H8 := b8.same np0 s07
        have hnm := valid_names eva
        have hvr := valid_rows eva (by omega)
        have lu := era.length
        refine ⟨4, rfl, by decide, by decide, ?_⟩
        refine for_range (lo := 0) (n := 4) (fun m σ G => ∃ y4 y5 y6, σ = [some (.ref a), some (.int (0 + (i : Int))), some (.ref p), some (.ref R), y4, y5, y6, none] ∧ PotAt G p ∧ G R = some (.lst us) ∧ RowsAre G us rows ∧ Same H G)
          ⟨y4, y5, y6, rfl, hp8, eR, era, s08⟩ (fun m σ G hm hP => ?_) (fun σ G hP => ?_)
        · obtain ⟨y4, y5, y6, rfl, hpG, eRG, eraG, sG⟩ := hP
          refine ⟨.ref R, rfl, R, us, rfl, .inl (.inl eRG), fun c nc zc => ?_⟩
          have tc := same_new (o := .lst us) nc
          have ec : (upd G c (.lst us)) c = some (.lst us) := upd_same
          have ncp : c ≠ p := by
            intro z
            obtain ⟨_, _, e, _⟩ := hpG
            rw [z, e] at nc
            cases nc
          generalize upd G c (.lst us) = G1 at tc ec ⊢
          refine ⟨.ref p, rfl, p, 4, rfl, hpG.same tc, by decide, by decide, fun G2 c0 c1 c2 hp2 b2 => ?_⟩
          refine ⟨c0, rfl, by omega, by omega, ?_⟩
          refine for_range (lo := 0) (n := c0.toNat) (fun j σ G3 => ∃ (y6 : Option V) (S : Addr) (hs : List V) (ds : List PyData), σ = [some (.ref a), some (.int (0 + (i : Int))), some (.ref p), some (.ref R), some (.int (0 + (m : Int))), some (.ref S), y6, none] ∧
              PotAt G3 p ∧ G3 R = some (.lst us) ∧ RowsAre G3 us rows ∧ Same H G3 ∧ S ≠ p ∧ S ≠ sysModules ∧ G3 S = some (.lst hs) ∧ Els (Apart p) G3 hs ds ∧ 1 ≤ hs.length ∧ hs.length ≤ 22 + j)
            ⟨y6, c, us, rows.map rowDt, rfl, hp2, b2 _ _ neR (tc _ _ eRG), (eraG.same tc).but (hpG.same tc) b2, b2.same np0 (sG.trans tc), ncp, zc, b2 _ _ ncp ec, (rows_els (eraG.same tc) hvr).but (hpG.same tc) b2, by omega, by omega⟩
            (fun j σ G3 hj hP => ?_) (fun σ G3 hP => ?_)
          · obtain ⟨y6, S, hs, ds, rfl, hp3, eR3, era3, s3, nSp, zS, eS, hE, h1, h2⟩ := hP
            have hj3 : j < 3 := by omega
            refine ⟨.ref p, rfl, .ref R, rfl, .ref S, rfl, p, R, S, us, hs, rows, ds, rfl, hp3, neR, nSp, eR3, era3, by omega, by omega, hnm, eS, hE, h1, by omega, fun G4 L ws es hp4 b4 nLp zL eL hE4 g1 g2 => ?_⟩
            refine ⟨_, L, ws, es, rfl, hp4, b4 _ _ neR eR3, era3.but hp3 b4, b4.same np0 s3, nLp, zL, eL, hE4, g1, ?_⟩
            rcases g2 with g2 | g2 <;> omega
          · obtain ⟨y6, S, hs, ds, rfl, hp3, eR3, era3, s3, nSp, zS, eS, hE, h1, h2⟩ := hP
            have dl := hE.length
            have hc3 : c0.toNat ≤ 3 := by omega
            have ff : Fit 40000 20 (.list ds) := (Fit.lst hE.fits).mono (by omega) (by decide)
            have ft : Fit 40000 20 (.tuple ds) := (Fit.tup hE.fits).mono (by omega) (by decide)
            refine ⟨.ref S, rfl, .ref S, .list ds, (fun a => Apart p a ∧ G3 a ≠ none), rfl, ShO.there (.lst eS ⟨nSp, zS⟩ hE.shos), (fun a o => o.1.2), (fun a o => o.2), ff, hE.fitMem, (show ds.length ≤ 90 by omega), fun G4 s4 => ?_⟩
            refine ⟨_, rfl, iteF ?_⟩
            refine ⟨.ref S, rfl, S, hs, rfl, .inl ⟨.inl (.inl (s4 _ _ eS)), fun t nt => ?_⟩⟩
            have st := same_new (o := .tup hs) nt
            have et : (upd G4 t (.tup hs)) t = some (.tup hs) := upd_same
            generalize upd G4 t (.tup hs) = G5 at st et ⊢
            have s35 := s4.trans st
            refine ⟨.ref t, .tuple ds, (fun a => Apart p a ∧ G5 a ≠ none), rfl, ShO.there (.tup et (hE.same s35).shos), (fun a o => o.1.2), (fun a o => o.2), ft, hE.fitMem, (show ds.length ≤ 90 by omega), fun G6 s6' => ?_⟩
            refine ⟨_, rfl, iteF ?_⟩
            have s36 := s35.trans s6'
            exact ⟨_, _, _, rfl, hp3.same s36, s36 _ _ eR3, era3.same s36, s3.trans s36⟩
        · obtain ⟨y4, y5, y6, rfl, hpG, eRG, eraG, sG⟩ := hP
          exact ⟨_, _, _, _, _, _, rfl, by omega, sG⟩
      · obtain ⟨y1, y2, y3, y4, y5, y6, rfl, hi2, s6⟩ := hP
        refine fun c1 n1 => ?_
        have t1 := same_new (o := .dK []) n1
        have a1 : (upd H6 c1 (.dK [])) c1 = some (.dK []) := upd_same
        generalize upd H6 c1 (.dK []) = G1 at t1 a1 ⊢
        refine fun c2 n2 => ?_
        refine ⟨(by decide : 0 ≤ sizeLine), fun c3 n3 => ?_⟩
        have n23 : c3 ≠ c2 := fun z => by
          rw [z, upd_same] at n3
          cases n3
        refine ⟨(by rw [upd_ne n23.symm, upd_same]), [(Sum.inr "abc", .ref c3)], rfl, (by decide : 1 ≤ 15), ?_⟩
        have t2 : Same G1 (upd (upd (upd G1 c2 (.dK [])) c3 (.tup [])) c2 (.dK (mergeK [] [(Sum.inr "abc", .ref c3)]))) := by
          intro b o hb
          have nb2 := ne_of_none hb n2
          have nb3 : b ≠ c3 := fun z => by
            rw [z] at hb
            rw [upd_ne n23, hb] at n3
            cases n3
          rw [upd_ne nb2, upd_ne nb3, upd_ne nb2]
          exact hb
        have a2 : (upd (upd (upd G1 c2 (.dK [])) c3 (.tup [])) c2 (.dK (mergeK [] [(Sum.inr "abc", .ref c3)]))) c2 = some (.dK [(Sum.inr "abc", .ref c3)]) := upd_same
        have a3 : (upd (upd (upd G1 c2 (.dK [])) c3 (.tup [])) c2 (.dK (mergeK [] [(Sum.inr "abc", .ref c3)]))) c3 = some (.tup []) := by
          rw [upd_ne n23, upd_same]
        generalize upd (upd (upd G1 c2 (.dK [])) c3 (.tup [])) c2 (.dK (mergeK [] [(Sum.inr "abc", .ref c3)])) = G3 at t2 a2 a3 ⊢
        refine ⟨(by decide : 0 ≤ sizeLine), fun c4 n4 => ?_⟩
        have t4 := same_new (o := .tup []) n4
        have a4 : (upd G3 c4 (.tup [])) c4 = some (.tup []) := upd_same
        generalize upd G3 c4 (.tup []) = G4 at t4 a4 ⊢
        refine ⟨(by decide : 1 ≤ sizeLine), fun c5 n5 z5 => ?_⟩
        have t5 := same_new (o := .lst [.ref c4]) n5
        have a5 : (upd G4 c5 (.lst [.ref c4])) c5 = some (.lst [.ref c4]) := upd_same
        generalize upd G4 c5 (.lst [.ref c4]) = G5 at t5 a5 ⊢
        refine ⟨(by decide : 0 ≤ sizeLine), fun c6 n6 z6 => ?_⟩
        have t6 := same_new (o := .lst []) n6
        have a6 : (upd G5 c6 (.lst [])) c6 = some (.lst []) := upd_same
        generalize upd G5 c6 (.lst []) = G6 at t6 a6 ⊢
        refine ⟨(by decide : 1 ≤ sizeLine), fun c7 n7 z7 => ?_⟩
        have t7 := same_new (o := .lst [.ref c6]) n7
        have a7 : (upd G6 c7 (.lst [.ref c6])) c7 = some (.lst [.ref c6]) := upd_same
        generalize upd G6 c7 (.lst [.ref c6]) = G7 at t7 a7 ⊢
        refine ⟨(by decide : 1 ≤ sizeLine), fun c8 n8 z8 => ?_⟩
        have t8 := same_new (o := .lst [.non]) n8
        have a8 : (upd G7 c8 (.lst [.non])) c8 = some (.lst [.non]) := upd_same
        generalize upd G7 c8 (.lst [.non]) = G8 at t8 a8 ⊢
        refine ⟨(by decide : 11 ≤ sizeLine), fun l nl => ?_⟩
        have t9 := same_new (o := .lst [.non, .int 0, .int 5, .bl true, .str "", .str "ab", .ref c1, .ref c2, .ref c5, .ref c7, .ref c8]) nl
        have a9 : (upd G8 l (.lst [.non, .int 0, .int 5, .bl true, .str "", .str "ab", .ref c1, .ref c2, .ref c5, .ref c7, .ref c8])) l = some (.lst [.non, .int 0, .int 5, .bl true, .str "", .str "ab", .ref c1, .ref c2, .ref c5, .ref c7, .ref c8]) := upd_same
        generalize upd G8 l (.lst [.non, .int 0, .int 5, .bl true, .str "", .str "ab", .ref c1, .ref c2, .ref c5, .ref c7, .ref c8]) = G9 at t9 a9 ⊢
        have B8 := t9
        have B7 := t8.trans B8
        have B6 := t7.trans B7
        have B5 := t6.trans B6
        have B4 := t5.trans B5
        have B3 := t4.trans B4
        have B1 := t2.trans B3
        have e1 := B1 _ _ a1
        have e2 := B3 _ _ a2
        have e3 := B3 _ _ a3
        have e4 := B4 _ _ a4
        have e5 := B5 _ _ a5
        have e6 := B6 _ _ a6
        have e7 := B7 _ _ a7
        have e8 := B8 _ _ a8
        have some_ne : ∀ {b : Addr} {o : HO}, G9 b = some o → G9 b ≠ none := fun h z => by
          rw [h] at z
          cases z
        have smk : ∀ x : Str, x ∈ (["", "ab", "abc"] : List Str) → Sm 10 x := by
          intro x hx
          have h1 : ∀ y ∈ (["", "ab", "abc"] : List Str), y.length ≤ 10 := by decide +kernel
          have h2 : ∀ y ∈ (["", "ab", "abc"] : List Str), ∀ c ∈ y.cps.toList, c < 128 := by decide +kernel
          exact ⟨h1 x hx, h2 x hx⟩
        have nofit : ∀ d ∈ ([] : List PyData), Fit 900 15 d := fun d hd => nomatch hd
        have fnil : Fit 900 15 (.tuple []) := (Fit.tup (m := 3) fitAll_nil).mono (by decide) (by decide)
        have fnilL : Fit 900 15 (.list []) := (Fit.lst (m := 3) fitAll_nil).mono (by decide) (by decide)
        have one : ∀ {x : PyData}, Fit 900 15 x → ∀ d ∈ [x], Fit 900 15 d := fun h d hd => by
          rw [List.mem_singleton.mp hd]
          exact h
        have gd : ∀ v ∈ [V.non, .int 0, .int 5, .bl true, .str "", .str "ab", .ref c1, .ref c2, .ref c5, .ref c7, .ref c8],
            ∃ dt, ShO (fun a => a ≠ sysModules ∧ G9 a ≠ none) G9 v dt ∧ Fit 40000 20 dt ∧ (∀ d ∈ itemsD dt, Fit 900 15 d) ∧ (itemsD dt).length ≤ 90 := by
          intro v hv
          simp only [List.mem_cons, List.not_mem_nil, or_false] at hv
          rcases hv with rfl | rfl | rfl | rfl | rfl | rfl | rfl | rfl | rfl | rfl | rfl
          · exact ⟨_, .non, fit_non.mono (by decide) (by decide), nofit, by decide⟩
          · exact ⟨_, .int 0, (fit_int (by decide)).mono (by decide) (by decide), nofit, by decide⟩
          · exact ⟨_, .int 5, (fit_int (by decide)).mono (by decide) (by decide), nofit, by decide⟩
          · exact ⟨_, .bl true, fit_bl.mono (by decide) (by decide), nofit, by decide⟩
          · exact ⟨_, .str _, (smk "" (by simp)).fit.mono (by decide) (by decide), nofit, by decide⟩
          · exact ⟨_, .str _, (smk "ab" (by simp)).fit.mono (by decide) (by decide), nofit, by decide⟩
          · exact ⟨_, .dict (ks := []) (vs := []) e1 .nil .nil, (Fit.dict (m := 3) fitKv_nil).mono (by decide) (by decide), nofit, by decide⟩
          · exact ⟨_, .dict (ks := [.str "abc"]) (vs := [.tuple []]) e2 (.cons (.str _) .nil) (.cons (.tup e3 .nil) .nil), (Fit.dict (Fit.consKv ((smk "abc" (by simp)).fit.mono (Nat.le_refl _) (Nat.zero_le 4)) (Fit.tup (m := 3) fitAll_nil) fitKv_nil)).mono (by decide) (by decide), nofit, by decide⟩
          · exact ⟨_, .lst e5 ⟨z5, some_ne e5⟩ (.cons (.tup e4 .nil) .nil), (Fit.lst (FitAll.cons fnil fitAll_nil)).mono (by decide) (by decide), one fnil, (show 1 ≤ 90 from by decide)⟩
          · exact ⟨_, .lst e7 ⟨z7, some_ne e7⟩ (.cons (.lst e6 ⟨z6, some_ne e6⟩ .nil) .nil), (Fit.lst (FitAll.cons fnilL fitAll_nil)).mono (by decide) (by decide), one fnilL, (show 1 ≤ 90 from by decide)⟩
          · exact ⟨_, .lst e8 ⟨z8, some_ne e8⟩ (.cons .non .nil), (Fit.lst (FitAll.cons (fit_non.mono (Nat.zero_le 900) (Nat.zero_le 15)) fitAll_nil)).mono (by decide) (by decide), one (fit_non.mono (by decide) (by decide)), (show 1 ≤ 90 from by decide)⟩
        refine ⟨l, rfl, ⟨_, .inl (.inl a9)⟩, fun D nD => ?_⟩
        refine lc_list (xs := [V.non, .int 0, .int 5, .bl true, .str "", .str "ab", .ref c1, .ref c2, .ref c5, .ref c7, .ref c8]) (fun j G => G D = some (.lst ((List.replicate j true).map V.bl)) ∧ Same G9 G ∧ j ≤ 11)
          ⟨upd_same, same_new nD, by decide⟩ (fun j G _ hP => .inl (.inl (hP.2.1 _ _ a9))) (fun j v G hv hP => ?_) (fun G hP => ?_)
        · obtain ⟨eD, sG, _⟩ := hP
          have hj : j < 11 := (List.getElem?_eq_some_iff.mp hv).1
          obtain ⟨dt, sh, hf, hfi, hl⟩ := gd v (List.mem_of_getElem? hv)
          refine ⟨rfl, v, rfl, v, dt, (fun a => a ≠ sysModules ∧ G9 a ≠ none), rfl, sh.same sG, (fun a o => o.1), (fun a o z => ?_), hf, hfi, hl, fun G' s' => ?_⟩
          · cases hz : G9 a with
            | none => exact o.2 hz
            | some u =>
              rw [sG _ _ hz] at z
              cases z
          · refine ⟨_, s' _ _ eD, ?_, ?_, ?_, by omega⟩
            · rw [List.length_map, List.length_replicate]
              exact sz1 (by omega)
            · rw [upd_same, List.replicate_succ', List.map_append]
              rfl
            · intro b o hb
              rw [upd_ne (ne_of_none hb nD)]
              exact s' _ _ (sG _ _ hb)
        · obtain ⟨eD, sG, _⟩ := hP
          refine ⟨D, _, rfl, .inl (.inl eD), ?_⟩
          rw [all_true]
          exact q _
end
end Lw
namespace Lw
open PySem PySem.Spec PyProof.Rows L2 Kv
theorem kitR {K : PySem.W.Frag} {C D : Addr} {b : Bool} (hd : PySem.W.hasDictIn K D = true) (ht : PySem.W.typeIn K (.ref D) = some (.type "type")) (hc : PySem.W.subIn K (.ref C) (.ref C) = some true)
    (hs : PySem.W.subIn K (.ref C) (.ref D) = some b) : PySem.W.kitOne K (.ref C) (.ref D) = some b := by
  obtain ⟨cd, hcd, _⟩ := PySem.W.any_some hd
  have e2 : ((PySem.W.clsIn K D).isSome && PySem.W.typeIn K (.ref D) == some (.type "type")) = true := by rw [hcd, ht] <;> rfl
  by_cases q : ((Value.ref C) == (Value.ref D)) = true
  · have e : C = D := Value.ref.inj (beq_iff_eq.mp q)
    subst e
    have e3 : some b = some true := hs.symm.trans hc
    show (if ((Value.ref C) == (Value.ref C)) = true then some true else PySem.W.kitCls K (.ref C) (.ref C)) = some b
    rw [if_pos q, e3]
  · show (if ((Value.ref C) == (Value.ref D)) = true then some true else (if ((PySem.W.clsIn K D).isSome && PySem.W.typeIn K (.ref D) == some (.type "type")) = true then PySem.W.subIn K (.ref C) (.ref D) else none)) = some b
    rw [if_neg q, if_pos e2]
    exact hs
theorem kitV {K : PySem.W.Frag} {C : Addr} {b : Bool} (hs : PySem.W.subIn K (.ref C) (.type "ValueError") = some b) : PySem.W.kitOne K (.ref C) (.type "ValueError") = some b := by
  have e2 : PySem.W.kitMeta "ValueError" = true := by decide +kernel
  show (if ((Value.ref C) == (Value.type "ValueError")) = true then some true else (if PySem.W.kitMeta "ValueError" = true then PySem.W.subIn K (.ref C) (.type "ValueError") else none)) = some b
  rw [if_neg (by intro z; cases (beq_iff_eq.mp z)), if_pos e2]
  exact hs
theorem kit3 {K : PySem.W.Frag} {t a b c : Value} (h1 : PySem.W.kitOne K t a = some false) (h2 : PySem.W.kitOne K t b = some false) (h3 : PySem.W.kitOne K t c = some false) : PySem.W.kitAny K t [a, b, c] = some false :=
  kitAny_cons h1 (fun _ => kitAny_cons h2 (fun _ => kitAny_cons h3 (fun _ => kitAny_nil) (fun z => nomatch z)) (fun z => nomatch z)) (fun z => nomatch z)
theorem all_mk {l : PySem.W.OpenLaw} {w : World} {K : PySem.W.Frag} {h : Heap} {mg : Str → Option Value} {fa C f0 f1 f2 f3 f4 f5 f6 f7 f8 f9 f10 f11 f12 f13 f14 f15 f16 f17 h0 h1 : Addr}
    {u0 : Tok} {u1 : Tok} (X : K.In h) (G : h.Ns mainGlobals mg) (hfa : mg "law" = some (.ref fa))
    (a0 : PySem.W.nsIn K mainGlobals "is_name" = some (some (.ref f0)))
    {oc0 kV0 dc0 pm0 cd0 ct0 : Value} {od0 an0 : Option Addr} {sl0 : Array (Option Value)}
    (l0 : K.lookup f0 = some ⟨oc0, od0, .func (PySem.W.fnOf "is_name" "is_name" (defArgs sIsName) (defBody sIsName) (defScope sIsName)
      .none kV0 dc0 pm0 an0 cd0 ct0), sl0⟩)
    (c0 : PySem.W.codeIn K cd0 "is_name" = true) (k0 : PySem.W.keepIn K (.ref f0) = true)
    (a1 : PySem.W.nsIn K mainGlobals "are_superclasses" = some (some (.ref f1)))
    {oc1 kV1 dc1 pm1 cd1 ct1 : Value} {od1 an1 : Option Addr} {sl1 : Array (Option Value)}
    (l1 : K.lookup f1 = some ⟨oc1, od1, .func (PySem.W.fnOf "are_superclasses" "are_superclasses" (defArgs sAre) (defBody sAre) (defScope sAre)
      .none kV1 dc1 pm1 an1 cd1 ct1), sl1⟩)
    (c1 : PySem.W.codeIn K cd1 "are_superclasses" = true) (k1 : PySem.W.keepIn K (.ref f1) = true)
    (a2 : PySem.W.nsIn K mainGlobals "row_problem" = some (some (.ref f2)))
    {oc2 kV2 dc2 pm2 cd2 ct2 : Value} {od2 an2 : Option Addr} {sl2 : Array (Option Value)}
    (l2 : K.lookup f2 = some ⟨oc2, od2, .func (PySem.W.fnOf "row_problem" "row_problem" (defArgs sProb) (defBody sProb) (defScope sProb)
      .none kV2 dc2 pm2 an2 cd2 ct2), sl2⟩)
    (c2 : PySem.W.codeIn K cd2 "row_problem" = true) (k2 : PySem.W.keepIn K (.ref f2) = true)
    (a3 : PySem.W.nsIn K mainGlobals "ancestors_of" = some (some (.ref f3)))
    {oc3 kV3 dc3 pm3 cd3 ct3 : Value} {od3 an3 : Option Addr} {sl3 : Array (Option Value)}
    (l3 : K.lookup f3 = some ⟨oc3, od3, .func (PySem.W.fnOf "ancestors_of" "ancestors_of" (defArgs sAnc) (defBody sAnc) (defScope sAnc)
      .none kV3 dc3 pm3 an3 cd3 ct3), sl3⟩)
    (c3 : PySem.W.codeIn K cd3 "ancestors_of" = true) (k3 : PySem.W.keepIn K (.ref f3) = true)
    (a4 : PySem.W.nsIn K mainGlobals "_law_pot" = some (some (.ref f4)))
    {oc4 kV4 dc4 pm4 cd4 ct4 : Value} {od4 an4 : Option Addr} {sl4 : Array (Option Value)}
    (l4 : K.lookup f4 = some ⟨oc4, od4, .func (PySem.W.fnOf "_law_pot" "_law_pot" (defArgs sPot) (defBody sPot) (defScope sPot)
      .none kV4 dc4 pm4 an4 cd4 ct4), sl4⟩)
    (c4 : PySem.W.codeIn K cd4 "_law_pot" = true) (k4 : PySem.W.keepIn K (.ref f4) = true)
    (a5 : PySem.W.nsIn K mainGlobals "_law_draw" = some (some (.ref f5)))
    {oc5 kV5 dc5 pm5 cd5 ct5 : Value} {od5 an5 : Option Addr} {sl5 : Array (Option Value)}
    (l5 : K.lookup f5 = some ⟨oc5, od5, .func (PySem.W.fnOf "_law_draw" "_law_draw" (defArgs sDraw) (defBody sDraw) (defScope sDraw)
      .none kV5 dc5 pm5 an5 cd5 ct5), sl5⟩)
    (c5 : PySem.W.codeIn K cd5 "_law_draw" = true) (k5 : PySem.W.keepIn K (.ref f5) = true)
    (a6 : PySem.W.nsIn K mainGlobals "_law_mixed" = some (some (.ref f6)))
    {oc6 kV6 dc6 pm6 cd6 ct6 : Value} {od6 an6 : Option Addr} {sl6 : Array (Option Value)}
    (l6 : K.lookup f6 = some ⟨oc6, od6, .func (PySem.W.fnOf "_law_mixed" "_law_mixed" (defArgs sMixed) (defBody sMixed) (defScope sMixed)
      .none kV6 dc6 pm6 an6 cd6 ct6), sl6⟩)
    (c6 : PySem.W.codeIn K cd6 "_law_mixed" = true) (k6 : PySem.W.keepIn K (.ref f6) = true)
    (a7 : PySem.W.nsIn K mainGlobals "_law_name" = some (some (.ref f7)))
    {oc7 kV7 dc7 pm7 cd7 ct7 : Value} {od7 an7 : Option Addr} {sl7 : Array (Option Value)}
    (l7 : K.lookup f7 = some ⟨oc7, od7, .func (PySem.W.fnOf "_law_name" "_law_name" (defArgs sName) (defBody sName) (defScope sName)
      .none kV7 dc7 pm7 an7 cd7 ct7), sl7⟩)
    (c7 : PySem.W.codeIn K cd7 "_law_name" = true) (k7 : PySem.W.keepIn K (.ref f7) = true)
    (a8 : PySem.W.nsIn K mainGlobals "_law_names" = some (some (.ref f8)))
    {oc8 kV8 dc8 pm8 cd8 ct8 : Value} {od8 an8 : Option Addr} {sl8 : Array (Option Value)}
    (l8 : K.lookup f8 = some ⟨oc8, od8, .func (PySem.W.fnOf "_law_names" "_law_names" (defArgs sNames) (defBody sNames) (defScope sNames)
      .none kV8 dc8 pm8 an8 cd8 ct8), sl8⟩)
    (c8 : PySem.W.codeIn K cd8 "_law_names" = true) (k8 : PySem.W.keepIn K (.ref f8) = true)
    (a9 : PySem.W.nsIn K mainGlobals "_law_kinds" = some (some (.ref f9)))
    {oc9 kV9 dc9 pm9 cd9 ct9 : Value} {od9 an9 : Option Addr} {sl9 : Array (Option Value)}
    (l9 : K.lookup f9 = some ⟨oc9, od9, .func (PySem.W.fnOf "_law_kinds" "_law_kinds" (defArgs sKinds) (defBody sKinds) (defScope sKinds)
      .none kV9 dc9 pm9 an9 cd9 ct9), sl9⟩)
    (c9 : PySem.W.codeIn K cd9 "_law_kinds" = true) (k9 : PySem.W.keepIn K (.ref f9) = true)
    (a10 : PySem.W.nsIn K mainGlobals "_law_is_good" = some (some (.ref f10)))
    {oc10 kV10 dc10 pm10 cd10 ct10 : Value} {od10 an10 : Option Addr} {sl10 : Array (Option Value)}
    (l10 : K.lookup f10 = some ⟨oc10, od10, .func (PySem.W.fnOf "_law_is_good" "_law_is_good" (defArgs sLGood) (defBody sLGood) (defScope sLGood)
      .none kV10 dc10 pm10 an10 cd10 ct10), sl10⟩)
    (c10 : PySem.W.codeIn K cd10 "_law_is_good" = true) (k10 : PySem.W.keepIn K (.ref f10) = true)
    (a11 : PySem.W.nsIn K mainGlobals "_law_row_problem" = some (some (.ref f11)))
    {oc11 kV11 dc11 pm11 cd11 ct11 : Value} {od11 an11 : Option Addr} {sl11 : Array (Option Value)}
    (l11 : K.lookup f11 = some ⟨oc11, od11, .func (PySem.W.fnOf "_law_row_problem" "_law_row_problem" (defArgs sLProb) (defBody sLProb) (defScope sLProb)
      .none kV11 dc11 pm11 an11 cd11 ct11), sl11⟩)
    (c11 : PySem.W.codeIn K cd11 "_law_row_problem" = true) (k11 : PySem.W.keepIn K (.ref f11) = true)
    (a12 : PySem.W.nsIn K mainGlobals "_law_due" = some (some (.ref f12)))
    {oc12 kV12 dc12 pm12 cd12 ct12 : Value} {od12 an12 : Option Addr} {sl12 : Array (Option Value)}
    (l12 : K.lookup f12 = some ⟨oc12, od12, .func (PySem.W.fnOf "_law_due" "_law_due" (defArgs sLDue) (defBody sLDue) (defScope sLDue)
      .none kV12 dc12 pm12 an12 cd12 ct12), sl12⟩)
    (c12 : PySem.W.codeIn K cd12 "_law_due" = true) (k12 : PySem.W.keepIn K (.ref f12) = true)
    (a13 : PySem.W.nsIn K mainGlobals "_law_told" = some (some (.ref f13)))
    {oc13 kV13 dc13 pm13 cd13 ct13 : Value} {od13 an13 : Option Addr} {sl13 : Array (Option Value)}
    (l13 : K.lookup f13 = some ⟨oc13, od13, .func (PySem.W.fnOf "_law_told" "_law_told" (defArgs sTold) (defBody sTold) (defScope sTold)
      .none kV13 dc13 pm13 an13 cd13 ct13), sl13⟩)
    (c13 : PySem.W.codeIn K cd13 "_law_told" = true) (k13 : PySem.W.keepIn K (.ref f13) = true)
    (a14 : PySem.W.nsIn K mainGlobals "_law_bad_row" = some (some (.ref f14)))
    {oc14 kV14 dc14 pm14 cd14 ct14 : Value} {od14 an14 : Option Addr} {sl14 : Array (Option Value)}
    (l14 : K.lookup f14 = some ⟨oc14, od14, .func (PySem.W.fnOf "_law_bad_row" "_law_bad_row" (defArgs sBad) (defBody sBad) (defScope sBad)
      .none kV14 dc14 pm14 an14 cd14 ct14), sl14⟩)
    (c14 : PySem.W.codeIn K cd14 "_law_bad_row" = true) (k14 : PySem.W.keepIn K (.ref f14) = true)
    (a15 : PySem.W.nsIn K mainGlobals "_law_spoilt" = some (some (.ref f15)))
    {oc15 kV15 dc15 pm15 cd15 ct15 : Value} {od15 an15 : Option Addr} {sl15 : Array (Option Value)}
    (l15 : K.lookup f15 = some ⟨oc15, od15, .func (PySem.W.fnOf "_law_spoilt" "_law_spoilt" (defArgs sSpoilt) (defBody sSpoilt) (defScope sSpoilt)
      .none kV15 dc15 pm15 an15 cd15 ct15), sl15⟩)
    (c15 : PySem.W.codeIn K cd15 "_law_spoilt" = true) (k15 : PySem.W.keepIn K (.ref f15) = true)
    (a16 : PySem.W.nsIn K mainGlobals "_law_right" = some (some (.ref f16)))
    {oc16 kV16 dc16 pm16 cd16 ct16 : Value} {od16 an16 : Option Addr} {sl16 : Array (Option Value)}
    (l16 : K.lookup f16 = some ⟨oc16, od16, .func (PySem.W.fnOf "_law_right" "_law_right" (defArgs sRight) (defBody sRight) (defScope sRight)
      .none kV16 dc16 pm16 an16 cd16 ct16), sl16⟩)
    (c16 : PySem.W.codeIn K cd16 "_law_right" = true) (k16 : PySem.W.keepIn K (.ref f16) = true)
    (a17 : PySem.W.nsIn K mainGlobals "law" = some (some (.ref f17)))
    {oc17 kV17 dc17 pm17 cd17 ct17 : Value} {od17 an17 : Option Addr} {sl17 : Array (Option Value)}
    (l17 : K.lookup f17 = some ⟨oc17, od17, .func (PySem.W.fnOf "law" "law" (defArgs sLaw) (defBody sLaw) (defScope sLaw)
      .none kV17 dc17 pm17 an17 cd17 ct17), sl17⟩)
    (c17 : PySem.W.codeIn K cd17 "law" = true) (k17 : PySem.W.keepIn K (.ref f17) = true)
    (aC : PySem.W.nsIn K mainGlobals "Hierarchy" = some (some (.ref C)))
    {TD T0 : Addr} {ocT : Value} {odT odU : Option Addr} {nT nU : Nat} {slT slU : Array (Option Value)} {uL : Tok}
    (m0 : PySem.W.findIn K (.ref C) "__init__" = some (some (.ref h0))) (i0 : PySem.W.isFn K (.ref h0) = true)
    {ocM0 kVM0 dcM0 pmM0 cdM0 ctM0 : Value} {odM0 anM0 : Option Addr} {slM0 : Array (Option Value)}
    (lM0 : K.lookup h0 = some ⟨ocM0, odM0, .func (PySem.W.fnOf "__init__" "Hierarchy.__init__" (defArgs m_init) (defBody m_init) (defScope m_init)
      (.ref TD) kVM0 dcM0 pmM0 anM0 cdM0 ctM0), slM0⟩)
    (cM0 : PySem.W.codeIn K cdM0 "Hierarchy.__init__" = true) (kM0 : PySem.W.keepIn K (.ref h0) = true)
    (m1 : PySem.W.findIn K (.ref C) "names" = some (some (.ref h1))) (i1 : PySem.W.isFn K (.ref h1) = true)
    {ocM1 kVM1 dcM1 pmM1 cdM1 ctM1 : Value} {odM1 anM1 : Option Addr} {slM1 : Array (Option Value)}
    (lM1 : K.lookup h1 = some ⟨ocM1, odM1, .func (PySem.W.fnOf "names" "Hierarchy.names" (defArgs m_names) (defBody m_names) (defScope m_names)
      .none kVM1 dcM1 pmM1 anM1 cdM1 ctM1), slM1⟩)
    (cM1 : PySem.W.codeIn K cdM1 "Hierarchy.names" = true) (kM1 : PySem.W.keepIn K (.ref h1) = true)
    (lT : K.lookup TD = some ⟨ocT, odT, .seq #[.ref T0] nT, slT⟩)
    (lU : K.lookup T0 = some ⟨.type "tuple", odU, .seq #[] nU, slU⟩)
    (pg : PySem.W.plainGet K C Str.empty = true)
    (hd : PySem.W.hasDictIn K C = true)
    (po : PySem.W.plainOver K C = true)
    (sa : PySem.W.findIn K (.ref C) "__setattr__" = some (some (.builtin "object.__setattr__")))
    (mk : PySem.W.makesIn K C = true)
    (kc : PySem.W.keepIn K (.ref C) = true)
    (nR : PySem.W.findIn K (.ref C) "rows" = some none)
    (nP : PySem.W.findIn K (.ref C) "places" = some none)
    (nA : PySem.W.findIn K (.ref C) "above" = some none)
    (rd : PySem.W.readsIn K C (.type "type") = true)
    (ga : PySem.W.specialIn K (.ref C) "__getattribute__" = some (some (.builtin "type.__getattribute__")))
    (cl : PySem.W.findCls K (.ref C) (.type "type") "LIMIT" = some (.val (.int 20 uL)))
    (e0 : PySem.W.nsIn K mainGlobals "LETTERS" = some (some (.str "abcdefghijklmnopqrstuvwxyz" u0)))
    (e1 : PySem.W.nsIn K mainGlobals "LONGEST_NAME" = some (some (.int 8 u1)))
    (z0 : PySem.W.nsIn K mainGlobals "len" = some none)
    (z1 : PySem.W.nsIn K mainGlobals "max" = some none)
    (z2 : PySem.W.nsIn K mainGlobals "min" = some none)
    (z3 : PySem.W.nsIn K mainGlobals "abs" = some none)
    (z4 : PySem.W.nsIn K mainGlobals "divmod" = some none)
    (z5 : PySem.W.nsIn K mainGlobals "range" = some none)
    (z6 : PySem.W.nsIn K mainGlobals "str" = some none)
    (z7 : PySem.W.nsIn K mainGlobals "isinstance" = some none)
    (z8 : PySem.W.nsIn K mainGlobals "all" = some none)
    (z9 : PySem.W.nsIn K mainGlobals "repr" = some none)
    (z10 : PySem.W.nsIn K mainGlobals "tuple" = some none)
    (z11 : PySem.W.nsIn K mainGlobals "list" = some none)
    (z12 : PySem.W.nsIn K mainGlobals "set" = some none)
    (z13 : PySem.W.nsIn K mainGlobals "enumerate" = some none)
    (z14 : PySem.W.nsIn K mainGlobals "ValueError" = some none)
    {CM CI C1 C2 C3 fI fM : Addr} (xM : PySem.W.nsIn K mainGlobals "MethodsError" = some (some (.ref CM)))
     (xI : PySem.W.nsIn K mainGlobals "InvalidHierarchy" = some (some (.ref CI)))
     (x1 : PySem.W.nsIn K mainGlobals "InvalidName" = some (some (.ref C1)))
     (x2 : PySem.W.nsIn K mainGlobals "InvalidSuperclasses" = some (some (.ref C2)))
     (x3 : PySem.W.nsIn K mainGlobals "InvalidText" = some (some (.ref C3)))
    {nmX qX : Str} {NX : Addr} {bsX : List Value} {snX : List Str} {subX : List Value} {abX : Bool} {colX : Option Bool} {ddX : Option Addr} {w0 w1 w2 w3 w5 : Option Value} (xL : K.lookup CI = some (excClassObj nmX qX CI NX bsX [.ref CM, .type "ValueError", .type "Exception", .type "BaseException", .type "object"] true snX subX abX colX ddX w0 w1 w2 w3 w5 "ValueError.__new__"))
     (xsa : PySem.W.findIn K (.ref CI) "__setattr__" = some (some (.builtin "object.__setattr__")))
     (xex : PySem.W.subIn K (.ref CI) (.type "BaseException") = some true)
     (xty : PySem.W.typeIn K (.ref CI) = some (.type "type"))
     (xk : PySem.W.keepIn K (.ref CI) = true)
     (xga : PySem.W.findIn K (.ref CI) "__getattribute__" = some (some (.builtin "BaseException.__getattribute__")))
     (xgg : PySem.W.findIn K (.ref CI) "__getattr__" = some none)
     (xhd : PySem.W.hasDictIn K CI = true)
     (xcl : PySem.W.findIn K (.ref CI) "__class__" = some (some (.builtin "object.__class__")))
     (xgt : PySem.W.specialIn K (.builtin "object.__class__") "__get__" = some (some (.builtin "getset_descriptor.__get__")))
     (xtk : PySem.W.takesIn K (.builtin "object.__class__") = some true)
     (xmr : PySem.W.mroIn K CI (.type "object") = some true)
     (xn1 : PySem.W.findIn K (.ref CI) "problem" = some none)
     (xn2 : PySem.W.findIn K (.ref CI) "position" = some none)
     (xem : PySem.W.subIn K (.ref CI) (.ref CI) = some true)
     (xk1 : PySem.W.subIn K (.ref CI) (.ref CM) = some true)
     (xk2 : PySem.W.subIn K (.ref CI) (.type "ValueError") = some true)
     (xj1 : PySem.W.subIn K (.ref CI) (.ref C1) = some false)
     (xj2 : PySem.W.subIn K (.ref CI) (.ref C2) = some false)
     (xj3 : PySem.W.subIn K (.ref CI) (.ref C3) = some false)
     (xtM : PySem.W.typeIn K (.ref CM) = some (.type "type"))
     (xhM : PySem.W.hasDictIn K CM = true)
     (xt1 : PySem.W.typeIn K (.ref C1) = some (.type "type"))
     (xh1 : PySem.W.hasDictIn K C1 = true)
     (xt2 : PySem.W.typeIn K (.ref C2) = some (.type "type"))
     (xh2 : PySem.W.hasDictIn K C2 = true)
     (xt3 : PySem.W.typeIn K (.ref C3) = some (.type "type"))
     (xh3 : PySem.W.hasDictIn K C3 = true)
     (xin : PySem.W.findIn K (.ref CI) "__init__" = some (some (.ref fI)))
     (xtf : PySem.W.typeIn K (.ref fI) = some (.type "function"))
     (xrd : PySem.W.readsIn K CM (.type "type") = true)
     (xgM : PySem.W.specialIn K (.ref CM) "__getattribute__" = some (some (.builtin "type.__getattribute__")))
     (xcM : PySem.W.findCls K (.ref CM) (.type "type") "__init__" = some (.val (.ref fM)))
     (xvV : PySem.W.findCls K (.type "ValueError") (.type "type") "__init__" = some (.val (.builtin "ValueError.__init__")))
    {ocXI kVXI dcXI pmXI cdXI ctXI : Value} {odXI anXI : Option Addr} {slXI : Array (Option Value)} (lXI : K.lookup fI = some ⟨ocXI, odXI, .func (PySem.W.fnOf "__init__" "InvalidHierarchy.__init__" (defArgs i_InvalidHierarchy) (defBody i_InvalidHierarchy) (defScope i_InvalidHierarchy)
      .none kVXI dcXI pmXI anXI cdXI ctXI), slXI⟩)
     (cXI : PySem.W.codeIn K cdXI "InvalidHierarchy.__init__" = true)
     (kXI : PySem.W.keepIn K (.ref fI) = true)
    {ocXM kVXM dcXM pmXM cdXM ctXM : Value} {odXM anXM : Option Addr} {slXM : Array (Option Value)} (lXM : K.lookup fM = some ⟨ocXM, odXM, .func (PySem.W.fnOf "__init__" "MethodsError.__init__" (defArgs i_MethodsError) (defBody i_MethodsError) (defScope i_MethodsError)
      .none kVXM dcXM pmXM anXM cdXM ctXM), slXM⟩)
     (cXM : PySem.W.codeIn K cdXM "MethodsError.__init__" = true)
     (kXM : PySem.W.keepIn K (.ref fM) = true)
    : ∃ fd : FuncData, (∀ (s : Shared) (v : Value), BindsTo s fd ⟨[v], []⟩ [("_law_script", v)]) ∧
      ∀ base : Heap, K.In base → base.Ns mainGlobals mg → sysModules < base.objs.size →
        FnG l.prog w K mg base CX0 8 fa fd ["_law_script"] (spLaw K) := by
  have e := hfa.symm.trans (PySem.W.mg_of X G a17)
  cases e
  have F_is_name := fun_mk (st := sIsName) l0 c0 k0
  have b_is_name := F_is_name.binds (ps := ["value"]) fun _ _ _ _ _ _ us hl =>
    match us, hl with | [_], _ => rfl
  have g_is_name := PySem.W.mg_of X G a0
  have F_are_superclasses := fun_mk (st := sAre) l1 c1 k1
  have b_are_superclasses := F_are_superclasses.binds (ps := ["value", "known"]) fun _ _ _ _ _ _ us hl =>
    match us, hl with | [_, _], _ => rfl
  have g_are_superclasses := PySem.W.mg_of X G a1
  have F_row_problem := fun_mk (st := sProb) l2 c2 k2
  have b_row_problem := F_row_problem.binds (ps := ["row", "known"]) fun _ _ _ _ _ _ us hl =>
    match us, hl with | [_, _], _ => rfl
  have g_row_problem := PySem.W.mg_of X G a2
  have F_ancestors_of := fun_mk (st := sAnc) l3 c3 k3
  have b_ancestors_of := F_ancestors_of.binds (ps := ["name", "superclasses", "above"]) fun _ _ _ _ _ _ us hl =>
    match us, hl with | [_, _, _], _ => rfl
  have g_ancestors_of := PySem.W.mg_of X G a3
  have F__law_pot := fun_mk (st := sPot) l4 c4 k4
  have b__law_pot := F__law_pot.binds (ps := ["_law_script", "_law_k"]) fun _ _ _ _ _ _ us hl =>
    match us, hl with | [_, _], _ => rfl
  have g__law_pot := PySem.W.mg_of X G a4
  have F__law_draw := fun_mk (st := sDraw) l5 c5 k5
  have b__law_draw := F__law_draw.binds (ps := ["_law_pot_here", "_law_many"]) fun _ _ _ _ _ _ us hl =>
    match us, hl with | [_, _], _ => rfl
  have g__law_draw := PySem.W.mg_of X G a5
  have F__law_mixed := fun_mk (st := sMixed) l6 c6 k6
  have b__law_mixed := F__law_mixed.binds (ps := ["_law_pot_here", "_law_some"]) fun _ _ _ _ _ _ us hl =>
    match us, hl with | [_, _], _ => rfl
  have g__law_mixed := PySem.W.mg_of X G a6
  have F__law_name := fun_mk (st := sName) l7 c7 k7
  have b__law_name := F__law_name.binds (ps := ["_law_pot_here"]) fun _ _ _ _ _ _ us hl =>
    match us, hl with | [_], _ => rfl
  have g__law_name := PySem.W.mg_of X G a7
  have F__law_names := fun_mk (st := sNames) l8 c8 k8
  have b__law_names := F__law_names.binds (ps := ["_law_pot_here", "_law_many"]) fun _ _ _ _ _ _ us hl =>
    match us, hl with | [_, _], _ => rfl
  have g__law_names := PySem.W.mg_of X G a8
  have F__law_kinds := fun_mk (st := sKinds) l9 c9 k9
  have b__law_kinds := F__law_kinds.binds (ps := ["_law_pot_here", "_law_most"]) fun _ _ _ _ _ _ us hl =>
    match us, hl with | [_, _], _ => rfl
  have g__law_kinds := PySem.W.mg_of X G a9
  have F__law_is_good := fun_mk (st := sLGood) l10 c10 k10
  have b__law_is_good := F__law_is_good.binds (ps := ["_law_thing"]) fun _ _ _ _ _ _ us hl =>
    match us, hl with | [_], _ => rfl
  have g__law_is_good := PySem.W.mg_of X G a10
  have F__law_row_problem := fun_mk (st := sLProb) l11 c11 k11
  have b__law_row_problem := F__law_row_problem.binds (ps := ["_law_row", "_law_labels"]) fun _ _ _ _ _ _ us hl =>
    match us, hl with | [_, _], _ => rfl
  have g__law_row_problem := PySem.W.mg_of X G a11
  have F__law_due := fun_mk (st := sLDue) l12 c12 k12
  have b__law_due := F__law_due.binds (ps := ["_law_handed"]) fun _ _ _ _ _ _ us hl =>
    match us, hl with | [_], _ => rfl
  have g__law_due := PySem.W.mg_of X G a12
  have F__law_told := fun_mk (st := sTold) l13 c13 k13
  have b__law_told := F__law_told.binds (ps := ["_law_handed"]) fun _ _ _ _ _ _ us hl =>
    match us, hl with | [_], _ => rfl
  have g__law_told := PySem.W.mg_of X G a13
  have F__law_bad_row := fun_mk (st := sBad) l14 c14 k14
  have b__law_bad_row := F__law_bad_row.binds (ps := ["_law_pot_here", "_law_rows"]) fun _ _ _ _ _ _ us hl =>
    match us, hl with | [_, _], _ => rfl
  have g__law_bad_row := PySem.W.mg_of X G a14
  have F__law_spoilt := fun_mk (st := sSpoilt) l15 c15 k15
  have b__law_spoilt := F__law_spoilt.binds (ps := ["_law_pot_here", "_law_rows", "_law_handed"]) fun _ _ _ _ _ _ us hl =>
    match us, hl with | [_, _, _], _ => rfl
  have g__law_spoilt := PySem.W.mg_of X G a15
  have F__law_right := fun_mk (st := sRight) l16 c16 k16
  have b__law_right := F__law_right.binds (ps := ["_law_handed"]) fun _ _ _ _ _ _ us hl =>
    match us, hl with | [_], _ => rfl
  have g__law_right := PySem.W.mg_of X G a16
  have F_law := fun_mk (st := sLaw) l17 c17 k17
  have b_law := F_law.binds (ps := ["_law_script"]) fun _ _ _ _ _ _ us hl =>
    match us, hl with | [_], _ => rfl
  have g_law := PySem.W.mg_of X G a17
  have q_LETTERS := PySem.W.mg_of X G e0
  have q_LONGEST_NAME := PySem.W.mg_of X G e1
  have n_len := PySem.W.mg_none_of X G z0
  have n_max := PySem.W.mg_none_of X G z1
  have n_min := PySem.W.mg_none_of X G z2
  have n_abs := PySem.W.mg_none_of X G z3
  have n_divmod := PySem.W.mg_none_of X G z4
  have n_range := PySem.W.mg_none_of X G z5
  have n_str := PySem.W.mg_none_of X G z6
  have n_isinstance := PySem.W.mg_none_of X G z7
  have n_all := PySem.W.mg_none_of X G z8
  have n_repr := PySem.W.mg_none_of X G z9
  have n_tuple := PySem.W.mg_none_of X G z10
  have n_list := PySem.W.mg_none_of X G z11
  have n_set := PySem.W.mg_none_of X G z12
  have n_enumerate := PySem.W.mg_none_of X G z13
  have n_ValueError := PySem.W.mg_none_of X G z14
  have T : HTxt K mg C := ⟨⟨pg, hd, po, sa⟩, nR, nP, nA, PySem.W.mg_of X G aC, _, _, ⟨rd, ga⟩, ⟨cl, ⟨_, rfl⟩⟩⟩
  obtain ⟨fdI, F_init⟩ : ∃ fdI, FunD K "__init__" "Hierarchy.__init__" (defArgs m_init) (defBody m_init) (defScope m_init) [.ref T0] [] h0 fdI :=
    ⟨_, ⟨_, _, .ref TD, _, _, _, _, _, _, _, rfl, lM0, cM0, .inr ⟨by simp, TD, _, [.ref T0], _, rfl, lT, rfl, .cons rfl .nil⟩, .inl rfl⟩, kM0⟩
  have b_init1 : Binds K fdI ["self", "classes"] [] := by
    obtain ⟨ds, r, b⟩ := F_init.binds1 (ps := ["self", "classes"]) 2 1 (by simp) rfl fun _ _ _ _ _ _ _ us its hu hi =>
      match us, its, hu, hi with | [_, _], [_], _, _ => ⟨_, rfl, rfl⟩
    cases r
    exact b
  obtain ⟨ds0, v_init0, b_init0⟩ := F_init.binds1 (ps := ["self", "classes"]) 1 0 (by simp) rfl fun _ _ _ _ _ _ _ us its hu hi =>
    match us, its, hu, hi with | [_], [_], _, _ => ⟨_, rfl, rfl⟩
  have M : Mk K C h0 := ⟨mk, m0, i0, kc⟩
  have T0e : SqT K (fun _ => none) T0 [] := .inr ⟨_, #[], _, lU, rfl, rfl, Nat.zero_le _, .nil⟩
  have F_names := fun_mk (st := m_names) lM1 cM1 kM1
  have b_names := F_names.binds (ps := ["self"]) fun _ _ _ _ _ _ us hl =>
    match us, hl with | [_], _ => rfl
  have mt_names : Meth K C "names" h1 := ⟨m1, i1, kM1⟩
  have g_M := PySem.W.mg_of X G xM
  have g_I := PySem.W.mg_of X G xI
  have g_1 := PySem.W.mg_of X G x1
  have g_2 := PySem.W.mg_of X G x2
  have g_3 := PySem.W.mg_of X G x3
  have F_ih := fun_mk (st := i_InvalidHierarchy) lXI cXI kXI
  have F_me := fun_mk (st := i_MethodsError) lXM cXM kXM
  have b_ih := F_ih.binds (ps := ["self", "problem", "position"]) fun _ _ _ _ _ _ us hl =>
    match us, hl with | [_, _, _], _ => rfl
  have b_me := F_me.binds (ps := ["self", "message"]) fun _ _ _ _ _ _ us hl =>
    match us, hl with | [_, _], _ => rfl
  have TI : OexC K CI := ⟨⟨_, _, _, _, _, _, _, _, _, _, _, _, _, _, _, xL, rfl⟩, xsa, xex, xty, xk⟩
  have TC : ExcC K CI := ⟨xga, xgg, xex, xhd, xcl, xgt, xtk, xmr⟩
  have TX : XfC K CI := ⟨xga, xgg, xex, xhd⟩
  refine ⟨PySem.W.fnOf "law" "law" (defArgs sLaw) (defBody sLaw) (defScope sLaw)
      .none kV17 dc17 pm17 an17 cd17 ct17, fun s v => ?_, fun base _ _ low => ?_⟩
  · exact .of_eq rfl
  · have GD := ok_draw (P := l.prog) (w := w) (base := base) (k := 0) F__law_draw n_divmod
    have GNm := ok_name (P := l.prog) (w := w) (base := base) (k := 0) F__law_name F__law_draw b__law_draw g__law_draw n_divmod n_range
    have GNs := ok_names (P := l.prog) (w := w) (base := base) (k := 0) F__law_names F__law_name b__law_name g__law_name GNm n_range
    have GM := ok_mixed (P := l.prog) (w := w) (base := base) (k := 0) F__law_mixed F__law_draw b__law_draw g__law_draw n_divmod n_range n_len n_list
    have GK := ok_kinds (P := l.prog) (w := w) (base := base) (k := 0) F__law_kinds F__law_draw b__law_draw g__law_draw F__law_names b__law_names g__law_names F__law_mixed b__law_mixed g__law_mixed GD GNs GM n_tuple
    have GIN := ok_isname (P := l.prog) (w := w) (base := base) (k := 0) F_is_name n_isinstance n_str n_len n_all q_LETTERS q_LONGEST_NAME
    have GA := ok_are (P := l.prog) (w := w) (base := base) (k := 0) F_are_superclasses n_isinstance n_tuple n_str n_all n_len n_set
    have GPr := ok_prob (P := l.prog) (w := w) (base := base) (k := 0) F_row_problem F_is_name b_is_name g_is_name F_are_superclasses b_are_superclasses g_are_superclasses GIN GA n_isinstance n_tuple n_len
    have GAn := ok_anc (P := l.prog) (w := w) (mg := mg) (base := base) (k := 0) F_ancestors_of
    have GME := ok_me (P := l.prog) (w := w) (base := base) (k := 0) F_me n_ValueError xvV
    have GIH := ok_ih (P := l.prog) (w := w) (base := base) (k := 0) F_ih TI F_me b_me GME g_M ⟨xrd, xgM⟩ xcM xn1 xn2
    have GI := ok_initX (P := l.prog) (w := w) (base := base) (k := 0) F_init T F_row_problem b_row_problem g_row_problem F_ancestors_of b_ancestors_of g_ancestors_of TI xin xtf g_I b_ih GIH GPr GAn n_isinstance n_tuple n_list n_enumerate n_len
    have GNn := ok_nmL (P := l.prog) (w := w) (base := base) (k := 0) F_names T n_list
    have GT := ok_told (P := l.prog) (w := w) (base := base) (k := 0) F__law_told T M b_init1 GI mt_names b_names GNn g_I g_M g_1 g_2 g_3 (PySem.W.exm_ref xex xhd xty xem) TC TX xn1 xn2 (kitR xhM xtM xem xk1) (kitV xk2) (kit3 (kitR xh1 xt1 xem xj1) (kitR xh2 xt2 xem xj2) (kitR xh3 xt3 xem xj3)) n_isinstance n_ValueError
    have GLg := ok_lgood (P := l.prog) (w := w) (base := base) (k := 0) F__law_is_good n_isinstance n_str n_len
    have GLp := ok_lprob (P := l.prog) (w := w) (base := base) (k := 0) F__law_row_problem F__law_is_good b__law_is_good g__law_is_good GLg n_isinstance n_tuple n_str n_len n_enumerate
    have GLd := ok_ldue (P := l.prog) (w := w) (base := base) (k := 0) F__law_due F__law_row_problem b__law_row_problem g__law_row_problem GLp n_isinstance n_tuple n_list n_len n_enumerate
    have GR := ok_right (P := l.prog) (w := w) (base := base) (k := 0) F__law_right F__law_told b__law_told g__law_told F__law_due b__law_due g__law_due GT GLd n_repr
    have GB := ok_bad (P := l.prog) (w := w) (base := base) (k := 0) F__law_bad_row low F__law_draw b__law_draw g__law_draw GD n_len
    have GSp := ok_spoilt (P := l.prog) (w := w) (base := base) (k := 0) F__law_spoilt low F__law_draw b__law_draw g__law_draw F__law_bad_row b__law_bad_row g__law_bad_row GD GB n_list n_len n_max
    have GPo := ok_pot (P := l.prog) (w := w) (base := base) (k := 0) F__law_pot n_len n_max n_abs
    exact ok_law F_law low F__law_pot b__law_pot g__law_pot F__law_kinds b__law_kinds g__law_kinds F__law_draw b__law_draw g__law_draw F__law_spoilt b__law_spoilt g__law_spoilt F__law_right b__law_right g__law_right GPo GK GD GSp GR n_range n_max n_min n_len n_all n_list n_tuple
end Lw
open PySem PySem.W PyProof.Rows
set_option maxHeartbeats 0 in
theorem PySem.Challenge.cw_fewestmethods_k13_first_invalid_class_holds : PySem.Challenge.rw_fewestmethods_k13_first_invalid_class.Holds := by
  w_on; o_law; k_head; (case hw => w_witness2)
  k_fill
  refine Kv.walk_ofG (l := PySem.Challenge.rw_fewestmethods_k13_first_invalid_class) (n := 63) (k := 8) (x := "_law_script") (sp := fun w => Lw.spLaw _)
    rfl (by decide) rfl ⟨rfl, by decide, by decide⟩ (fun w h Y => PySem.W.kIn_of Y) ?F
    (fun _ _ a ns hl _ _ hS => ⟨a, ns, rfl, hS, hl, fun _ => rfl⟩)
  case F =>
    intro w mg fa h KX G hmg
    refine' Lw.all_mk KX G hmg
      ?a0 ?l0 ?c0 ?k0 ?a1 ?l1 ?c1 ?k1 ?a2 ?l2 ?c2 ?k2
      ?a3 ?l3 ?c3 ?k3 ?a4 ?l4 ?c4 ?k4 ?a5 ?l5 ?c5 ?k5
      ?a6 ?l6 ?c6 ?k6 ?a7 ?l7 ?c7 ?k7 ?a8 ?l8 ?c8 ?k8
      ?a9 ?l9 ?c9 ?k9 ?a10 ?l10 ?c10 ?k10 ?a11 ?l11 ?c11 ?k11
      ?a12 ?l12 ?c12 ?k12 ?a13 ?l13 ?c13 ?k13 ?a14 ?l14 ?c14 ?k14
      ?a15 ?l15 ?c15 ?k15 ?a16 ?l16 ?c16 ?k16 ?a17 ?l17 ?c17 ?k17
      ?aC ?m0 ?i0 ?lM0 ?cM0 ?kM0 ?m1 ?i1 ?lM1 ?cM1 ?kM1 ?lT
      ?lU ?pg ?hd ?po ?sa ?mk ?kc ?nR ?nP ?nA ?rd ?ga
      ?cl ?e0 ?e1 ?z0 ?z1 ?z2 ?z3 ?z4 ?z5 ?z6 ?z7 ?z8
      ?z9 ?z10 ?z11 ?z12 ?z13 ?z14 ?xM ?xI ?x1 ?x2 ?x3 ?xL
      ?xsa ?xex ?xty ?xk ?xga ?xgg ?xhd ?xcl ?xgt ?xtk ?xmr ?xn1
      ?xn2 ?xem ?xk1 ?xk2 ?xj1 ?xj2 ?xj3 ?xtM ?xhM ?xt1 ?xh1 ?xt2
      ?xh2 ?xt3 ?xh3 ?xin ?xtf ?xrd ?xgM ?xcM ?xvV ?lXI ?cXI ?kXI
      ?lXM ?cXM ?kXM
    (case a0 => k_is); (case l0 => k_is); (case c0 => k_is); (case k0 => k_is)
    (case a1 => k_is); (case l1 => k_is); (case c1 => k_is); (case k1 => k_is)
    (case a2 => k_is); (case l2 => k_is); (case c2 => k_is); (case k2 => k_is)
    (case a3 => k_is); (case l3 => k_is); (case c3 => k_is); (case k3 => k_is)
    (case a4 => k_is); (case l4 => k_is); (case c4 => k_is); (case k4 => k_is)
    (case a5 => k_is); (case l5 => k_is); (case c5 => k_is); (case k5 => k_is)
    (case a6 => k_is); (case l6 => k_is); (case c6 => k_is); (case k6 => k_is)
    (case a7 => k_is); (case l7 => k_is); (case c7 => k_is); (case k7 => k_is)
    (case a8 => k_is); (case l8 => k_is); (case c8 => k_is); (case k8 => k_is)
    (case a9 => k_is); (case l9 => k_is); (case c9 => k_is); (case k9 => k_is)
    (case a10 => k_is); (case l10 => k_is); (case c10 => k_is); (case k10 => k_is)
    (case a11 => k_is); (case l11 => k_is); (case c11 => k_is); (case k11 => k_is)
    (case a12 => k_is); (case l12 => k_is); (case c12 => k_is); (case k12 => k_is)
    (case a13 => k_is); (case l13 => k_is); (case c13 => k_is); (case k13 => k_is)
    (case a14 => k_is); (case l14 => k_is); (case c14 => k_is); (case k14 => k_is)
    (case a15 => k_is); (case l15 => k_is); (case c15 => k_is); (case k15 => k_is)
    (case a16 => k_is); (case l16 => k_is); (case c16 => k_is); (case k16 => k_is)
    (case a17 => k_is); (case l17 => k_is); (case c17 => k_is); (case k17 => k_is)
    (case aC => k_is); (case m0 => k_is); (case i0 => k_is); (case lM0 => k_is)
    (case cM0 => k_is); (case kM0 => k_is); (case m1 => k_is); (case i1 => k_is)
    (case lM1 => k_is); (case cM1 => k_is); (case kM1 => k_is); (case lT => k_is)
    (case lU => k_is); (case pg => k_is); (case hd => k_is); (case po => k_is)
    (case sa => k_is); (case mk => k_is); (case kc => k_is); (case nR => k_is)
    (case nP => k_is); (case nA => k_is); (case rd => k_is); (case ga => k_is)
    (case cl => k_is); (case e0 => k_is); (case e1 => k_is); (case z0 => k_is)
    (case z1 => k_is); (case z2 => k_is); (case z3 => k_is); (case z4 => k_is)
    (case z5 => k_is); (case z6 => k_is); (case z7 => k_is); (case z8 => k_is)
    (case z9 => k_is); (case z10 => k_is); (case z11 => k_is); (case z12 => k_is)
    (case z13 => k_is); (case z14 => k_is); (case xM => k_is); (case xI => k_is)
    (case x1 => k_is); (case x2 => k_is); (case x3 => k_is); (case xL => k_is)
    (case xsa => k_is); (case xex => k_is); (case xty => k_is); (case xk => k_is)
    (case xga => k_is); (case xgg => k_is); (case xhd => k_is); (case xcl => k_is)
    (case xgt => k_is); (case xtk => k_is); (case xmr => k_is); (case xn1 => k_is)
    (case xn2 => k_is); (case xem => k_is); (case xk1 => k_is); (case xk2 => k_is)
    (case xj1 => k_is); (case xj2 => k_is); (case xj3 => k_is); (case xtM => k_is)
    (case xhM => k_is); (case xt1 => k_is); (case xh1 => k_is); (case xt2 => k_is)
    (case xh2 => k_is); (case xt3 => k_is); (case xh3 => k_is); (case xin => k_is)
    (case xtf => k_is); (case xrd => k_is); (case xgM => k_is); (case xcM => k_is)
    (case xvV => k_is); (case lXI => k_is); (case cXI => k_is); (case kXI => k_is)
    (case lXM => k_is); (case cXM => k_is); (case kXM => k_is)
