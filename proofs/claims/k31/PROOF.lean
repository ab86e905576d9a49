import PyProof.Rows.All
import Wide.All
import OpenK.AllK
import Wide.FinOn
import HandS.ForMost
import HandS.IsInst
import HandS.WideBits
import PyProof.ReprRoads
import HandS.EndBits
import HandS.Walk
import PyProof.ReprLen
import HandS.Strs
import KE.GoesMore
import HandS.ClsMeth
import HandS.Defaults
import HandS.Deep
import HandS.Style
import PyProof.EqKinds
import PySem.Challenge.RW_fewestmethods_k31_bodies_judged
set_option Elab.async false
set_option linter.all false
set_option maxRecDepth 100000
set_option maxHeartbeats 4000000
/-! Defs that show values with repr: the promise of a def that is called while no repr is under way. -/
namespace Kv
open PySem PySem.Spec PyProof.Rows L2
/-- as FnOk, for calls with no repr under way -/
structure FnG (P : Program) (w : World) (K : PySem.W.Frag) (mg : Str → Option Value)
    (base : Heap) (CX : CXT) (k : Nat) (f : Addr) (fd : FuncData) (ps : List Str) (sp : Sp) : Prop where
  many : ∀ vs H Q E, sp vs H Q E → vs.length = ps.length
  goes : ∀ (A : Around) (fr : List Env) (s : Shared) (H : Hp) (ar : Args)
    (us : List Value) (vs : List V) (Q : VK) (E : XK), A.guards = some [] → Room k A →
    Env0 P w K mg base A fr s H → BindsTo s fd ar (ps.zip us) → Vals vs us → sp vs H Q E →
    codeAny (model P w) A (.call (.ref f) ar) (CR CX fr P w H s Q E) s
theorem FnG.of {P : Program} {w : World} {K : PySem.W.Frag} {mg : Str → Option Value}
    {base : Heap} {CX : CXT} {k : Nat} {f : Addr} {fd : FuncData} {ps : List Str} {sp : Sp}
    (F : FnOk P w K mg base CX k f fd ps sp) : FnG P w K mg base CX k f fd ps sp :=
  ⟨F.len, fun A fr s H ar us vs Q E _ => F.run A fr s H ar us vs Q E⟩
section
variable {P : Program} {w : World} {K : PySem.W.Frag} {mg : Str → Option Value} {base : Heap}
/-- a def's promise by its body, where no repr is under way at the call -/
theorem okG {x qual : Str} {st : Stmt} {f : Addr} {fd : FuncData} {N ps : List Str} {k : Nat} {sp : Sp}
    (F : Fun K x qual st f fd) (S : FnScope N ps (defScope st))
    (many : ∀ vs H Q E, sp vs H Q E → vs.length = ps.length)
    (hb : ∀ (cdv : Value) (A : Around) (fr : List Env) (s : Shared) (H : Hp) (vs : List V) (Q : VK) (E : XK),
      A.guards = some [] →
      Room k (A.deeper (envOfC qual (defScope st) s.heap.objs.size f cdv)) → sp vs H Q E →
      ∃ t, PSs (cxOf CX0 P w K mg base N qual (defScope st) f cdv A fr s H E).nox (defBody st) t ∧
        t { nx := fun _ H' => Q .non H', rt := Q } (start N vs) H) :
    FnG P w K mg base CX0 (k + 1) f fd ps sp := by
  obtain ⟨oc, od, kV, doc, pm, an, cdv, ct, osl, rfl, lk, hcd⟩ := F.ex
  refine ⟨many, ?_⟩
  intro A fr s H ar us vs Q E hg hr e0 hbd rv hsp
  have kin : K.In s.heap :=
    e0.mod.kin.keeps fun b o e => (e0.bs b o e).1
  have nol : s.heap.NoLimit :=
    e0.mod.nolimit.keeps fun b o e => (e0.bs b o e).1
  refine codeAny_call_function hr.depth (kin _ _ lk) rfl S.co S.gen rfl
    (PySem.W.codeRec_of kin hcd) (hbd _ _ _ _ ?_)
  refine wpAny_newFunctionEnv_cells S.kind (fun y hy => ?_) fun env he s1 ic => ?_
  · obtain ⟨n, v⟩ := y
    rcases S.par n (List.of_mem_zip hy).1 with q | q
    · exact Or.inl q
    · exact Or.inr ⟨q, PySem.W.cellsFrom_some _ _ _ (Or.inl q)⟩
  · subst he
    refine ⟨nol.keeps ic.toInCall.keep, codeAny_func ?_⟩
    obtain ⟨t, ht, hq⟩ := hb cdv A fr s H vs Q E hg (hr.deeper _) hsp
    have I : Inv (cxOf CX0 P w K mg base N qual (defScope st) f cdv A fr s H E) [] (start N vs) H s1 :=
      inv_start S hr.hd e0 (many _ _ _ _ hsp) rv ic
    refine wpAny_mono (ht.nox.run [] s1 (start N vs) H _ I hq) (fun fl s2 hs => ?_) (fun e s2 hs => hs)
    cases fl with
    | brk => exact hs.elim fun _ h => h.elim fun _ h => h.2.elim
    | cont => exact hs.elim fun _ h => h.elim fun _ h => h.2.elim
    | ret u =>
      obtain ⟨v, σ2, H2, J, r2, q2⟩ := hs
      exact ⟨v, H2, J.os, J.bare, J.base, J.hok, r2, q2⟩
    | next =>
      obtain ⟨σ2, H2, J, q2⟩ := hs
      exact ⟨V.non, H2, J.os, J.bare, J.base, J.hok, rfl, q2⟩
end
section
variable {X : Cx} {CX : CXT} {k : Nat} {f : Addr} {fd : FuncData} {ps : List Str} {sp : Sp}
  {dvs : List V} {ds : List Value} {E : XK} {x : Str} {p pos : Pos} {e : Expr} {es : List Expr} {t : TA}
theorem runG {pins : List (Addr × Obj)} {σ : L2.St} {H : Hp} {s : Shared} {Q : VK} {us : List Value} {vs : List V}
    (F : FnG X.prog X.w X.K X.mg X.base CX k f fd ps sp) (hgd : X.A.guards = some []) (hr : Room k X.A)
    (hb : Binds X.K fd ps ds) (hd : Vals dvs ds) (hx : Passes CX X E)
    (I : Inv X pins σ H s) (r : Vals vs us) (h : sp (vs ++ dvs) H Q E) :
    wpAny (model X.prog X.w) X.A (call (.ref f) us) (EP X pins σ Q) X.xe s := by
  have rr : Vals (vs ++ dvs) (us ++ ds) := r.append hd
  have hl : (us ++ ds).length = ps.length := by
    rw [← rr.length]
    exact F.many _ _ _ _ h
  refine wpAny_call (codeAny_mono (F.goes X.A X.stack s H ⟨us, []⟩ (us ++ ds) (vs ++ dvs) Q E
    hgd hr I.env0 (hb s us I.kIn hl) rr h) fun z s2 hq => ?_)
  cases z with
  | error e => exact hx pins σ H s e s2 I hq
  | ok fl =>
    cases fl with
    | ret u => exact I.after hq
    | next => exact hq.elim
    | brk => exact hq.elim
    | cont => exact hq.elim
/-- f(e, ..) of such a def -/
theorem pe_callG (F : FnG X.prog X.w X.K X.mg X.base CX k f fd ps sp) (hgd : X.A.guards = some [])
    (hr : Room k X.A) (hg : Gl X x) (hm : X.mg x = some (.ref f)) (hk : PySem.W.keepIn X.K (.ref f) = true)
    (hb : Binds X.K fd ps ds) (hd : Vals dvs ds) (hx : Passes CX X E) (ha : PA X (e :: es) t)
    (hdb : (x == ("__debug__" : Str)) = false := by decide)
    (he : starEach (e :: es) X.env = (false, eval e X.env) :: starEach es X.env := by rfl)
    (hpl : (backTo pos (starEach es X.env)).any (·.1) = false := by rfl) :
    PE X (.Call (.Name x p) (e :: es) [] pos) (tCall sp dvs E t) := by
  constructor
  intro pins s σ H Q I h
  refine wpAny_Call_Name_kw (ld_glob I hg hm ?_ hdb)
  refine PySem.W.callWith_K (h₀ := X.base) I.ok.mod.kin hk (thn (ha.run pos pins s σ H _ I h)
    fun us s1 ⟨vs, H1, I1, r, q⟩ => ⟨I1.kIn, ?_⟩) he hpl
  exact runG F hgd hr hb hd hx I1 r q
end
/-! ### what repr shows -/
mutual
/-- the value v is the datum d. nd: no dict is in it -/
inductive Sh (K : PySem.W.Frag) (nd : Bool) (H : Hp) : V → PyData → Prop
  | non : Sh K nd H .non .none
  | bl (b : Bool) : Sh K nd H (.bl b) (.bool b)
  | int (i : Int) : Sh K nd H (.int i) (.int i)
  | str (x : Str) : Sh K nd H (.str x) (.str x)
  | lst {a : Addr} {xs : List V} {ds : List PyData} : SqL K H a xs → (nd = false → a ≠ sysModules) →
      ShAll K nd H xs ds → Sh K nd H (.ref a) (.list ds)
  | tup {a : Addr} {xs : List V} {ds : List PyData} : SqT K H a xs →
      ShAll K nd H xs ds → Sh K nd H (.ref a) (.tuple ds)
  | dict {a : Addr} {kvs : List (Key × V)} {ks vs : List PyData} : nd = false → H a = some (.dK kvs) →
      ShAll K nd H (kvs.map fun p => kV p.1) ks → ShAll K nd H (kvs.map fun p => p.2) vs →
      Sh K nd H (.ref a) (.dict (ks.zip vs))
inductive ShAll (K : PySem.W.Frag) (nd : Bool) (H : Hp) : List V → List PyData → Prop
  | nil : ShAll K nd H [] []
  | cons {v : V} {vs : List V} {d : PyData} {ds : List PyData} : Sh K nd H v d →
      ShAll K nd H vs ds → ShAll K nd H (v :: vs) (d :: ds)
end
theorem ShAll.length {K : PySem.W.Frag} {nd : Bool} {H : Hp} : ∀ {vs : List V} {ds : List PyData}, ShAll K nd H vs ds → vs.length = ds.length
  | _, _, .nil => rfl
  | _, _, .cons _ t => by rw [List.length_cons, List.length_cons, t.length]
theorem pairs_vals {P : Program} {w : World} : ∀ {es : List DictEntry} {kvs : List (Key × V)} {vs : List (Key × Value)},
    KV kvs vs → Pairs (mixKind P w) es vs →
    Vals (kvs.map fun p => kV p.1) (es.map (·.key)) ∧ Vals (kvs.map fun p => p.2) (es.map (·.val))
  | _, _, _, .nil, .nil => ⟨.nil, .nil⟩
  | _, _, _, .cons ⟨e1, r1⟩ t, .cons h1 h2 ht => by
    obtain ⟨q1, q2⟩ := pairs_vals t ht
    refine ⟨.cons ?_ q1, .cons (by show RelV _ (DictEntry.val _); rw [h2]; exact r1) q2⟩
    have h1' : keyIs _ _ = true := h1
    rw [← e1] at h1'
    show RelV (kV (Prod.fst _)) (DictEntry.key _)
    rcases keyIs_shape h1' with ⟨i, t, e, e2⟩ | ⟨x, t, e, e2⟩
    · rw [e, e2]
      exact ⟨t, rfl⟩
    · rw [e, e2]
      exact ⟨t, rfl⟩
theorem zip_fst : ∀ {α β : Type} (xs : List α) (ys : List β), xs.length = ys.length → (xs.zip ys).map (·.1) = xs
  | _, _, [], _, _ => rfl
  | _, _, x :: xs, y :: ys, h => by
    show x :: (xs.zip ys).map (·.1) = x :: xs
    rw [zip_fst xs ys (Nat.succ.inj h)]
theorem zip_snd : ∀ {α β : Type} (xs : List α) (ys : List β), xs.length = ys.length → (xs.zip ys).map (·.2) = ys
  | _, _, [], [], _ => rfl
  | _, _, x :: xs, y :: ys, h => by
    show y :: (xs.zip ys).map (·.2) = y :: ys
    rw [zip_snd xs ys (Nat.succ.inj h)]
section
variable {X : Cx} {pins : List (Addr × Obj)} {σ : L2.St} {H : Hp} {s : Shared} {nd : Bool}
mutual
theorem Sh.reads (I : Inv X pins σ H s) : ∀ {v : V} {d : PyData} {u : Value}, Sh X.K nd H v d → RelV v u →
    ∃ as, Reads s.heap u d as ∧ (nd = false → sysModules ∉ as) ∧ (nd = true → d.hasDict = false)
  | _, _, _, .non, r => by
    cases r
    exact ⟨_, Reads.none, fun _ h => (nomatch h), fun _ => by simp [PyData.hasDict]⟩
  | _, _, _, .bl b, r => by
    cases r
    exact ⟨_, Reads.bool b, fun _ h => (nomatch h), fun _ => by simp [PyData.hasDict]⟩
  | _, _, _, .int i, r => by
    obtain ⟨t, rfl⟩ := r
    exact ⟨_, Reads.int i t, fun _ h => (nomatch h), fun _ => by simp [PyData.hasDict]⟩
  | _, _, _, .str x, r => by
    obtain ⟨t, rfl⟩ := r
    exact ⟨_, Reads.str x t, fun _ h => (nomatch h), fun _ => by simp [PyData.hasDict]⟩
  | _, _, _, .lst hs hne ha, r => by
    cases r
    obtain ⟨its, rv, ⟨o, n, ho, hc, _, hd⟩, _⟩ := I.list hs
    obtain ⟨as, h1, h2, h3⟩ := ShAll.reads I ha rv
    refine ⟨_, Reads.list ho hc hd h1, fun e hm => ?_, fun e => by simp only [PyData.hasDict]; exact h3 e⟩
    rcases List.mem_cons.mp hm with z | z
    · exact hne e z.symm
    · exact h2 e z
  | _, _, _, .tup hs ha, r => by
    cases r
    obtain ⟨its, rv, ⟨o, ho, hc, n, hd⟩, _⟩ := I.tuple hs
    obtain ⟨as, h1, h2, h3⟩ := ShAll.reads I ha rv
    exact ⟨_, Reads.tuple ho hc hd h1, h2, fun e => by simp only [PyData.hasDict]; exact h3 e⟩
  | _, _, _, .dict (a := a) (kvs := kvs) (ks := ks) (vs := ds) e0 hs hk hv, r => by
    cases r
    have l1 := hk.length
    have l2 := hv.length
    rw [List.length_map] at l1 l2
    have l3 : ks.length = ds.length := l1.symm.trans l2
    obtain ⟨_, hne, vs, kv, o, es, ep, g1, g2, g3, _, g5, _⟩ :=
      (show ObjOk X.prog X.w H s.heap a (.dK kvs) from I.hok a _ hs)
    obtain ⟨v1, v2⟩ := pairs_vals kv g5
    obtain ⟨as, h1, h2, _⟩ := ShAll.reads I hk v1
    obtain ⟨bs, k1, k2, _⟩ := ShAll.reads I hv v2
    refine ⟨_, Reads.dict (kvs := ks.zip ds) g1 g2.1 g3 (by rw [zip_fst ks ds l3]; exact h1)
      (by rw [zip_snd ks ds l3]; exact k1), fun e hm => ?_, fun e => by rw [e0] at e; cases e⟩
    rcases List.mem_append.mp hm with z | z
    · rcases List.mem_cons.mp z with y | y
      · rw [← y] at hne
        simp at hne
      · exact h2 e y
    · exact k2 e z
theorem ShAll.reads (I : Inv X pins σ H s) : ∀ {vs : List V} {ds : List PyData} {us : List Value},
    ShAll X.K nd H vs ds → Vals vs us →
    ∃ as, ReadsAll s.heap us ds as ∧ (nd = false → sysModules ∉ as) ∧ (nd = true → PyData.hasDictAll ds = false)
  | _, _, _, .nil, r => by
    cases r
    exact ⟨_, ReadsAll.nil, fun _ h => (nomatch h), fun _ => by simp [PyData.hasDictAll]⟩
  | _, _, _, .cons h1 h2, .cons r1 r2 => by
    obtain ⟨as, q1, q2, q3⟩ := Sh.reads I h1 r1
    obtain ⟨bs, k1, k2, k3⟩ := ShAll.reads I h2 r2
    refine ⟨_, ReadsAll.cons q1 k1, fun e hm => ?_, fun e => by simp only [PyData.hasDictAll, q3 e, k3 e, Bool.or_self]⟩
    rcases List.mem_append.mp hm with z | z
    · exact q2 e z
    · exact k2 e z
end
/-- repr of a datum -/
def rRepr (K : PySem.W.Frag) : List V → Hp → VK → Prop := fun xs H Q => ∃ (nd : Bool) (x : V) (d : PyData), xs = [x] ∧
  Sh K nd H x d ∧ d.showable = true ∧ d.shown.length ≤ sizeLine ∧ d.depth ≤ 60 ∧ Q (.str d.shown) H
theorem call_reprD (hg : X.A.guards = some []) (hu : X.A.units + 64 < cLine) : CallR X (.builtin "repr") (rRepr X.K) := by
  intro pins s σ H xs us Q I r h
  obtain ⟨nd, x, d, rfl, sh, hs, hz, hd, q⟩ := h
  obtain ⟨u, rfl, ru⟩ : ∃ u, us = [u] ∧ RelV x u := by
    cases r with
    | cons r1 r2 =>
      cases r2
      exact ⟨_, rfl, r1⟩
  obtain ⟨as, rd, n1, n2⟩ := sh.reads I ru
  cases sh with
  | non =>
    cases ru
    exact PySem.P.repr_of_none ⟨.str "None", H, I.tok _, ⟨_, rfl⟩, by simpa [PyData.shown] using q⟩
  | bl b =>
    cases ru
    exact PySem.P.repr_of_bool ⟨.str (if b then "True" else "False"), H, I.tok _, ⟨_, rfl⟩, by simpa [PyData.shown] using q⟩
  | int i =>
    obtain ⟨t, rfl⟩ := ru
    exact PySem.P.repr_of_int (by simpa [PyData.showable] using hs) ⟨.str (toString i), H, I.tok _, ⟨_, rfl⟩, by simpa [PyData.shown] using q⟩
  | str z =>
    obtain ⟨t, rfl⟩ := ru
    exact PySem.P.repr_of_str ⟨.str (reprText z), H, I.tok _, ⟨_, rfl⟩, by simpa [PyData.shown] using q⟩ (by simpa [PyData.shown] using hz)
  | lst h1 h2 h3 =>
    cases ru
    exact repr_of_reads' rd hs (fun e => by cases nd with
      | false => exact n1 rfl
      | true => rw [n2 rfl] at e; cases e) hg (by omega) (fun _ _ e => e) (fun h2 u tk hk => ⟨.str _, H, I.kept hk, ⟨_, rfl⟩, q⟩) hz
  | tup h1 h2 =>
    cases ru
    exact repr_of_reads' rd hs (fun e => by cases nd with
      | false => exact n1 rfl
      | true => rw [n2 rfl] at e; cases e) hg (by omega) (fun _ _ e => e) (fun h2 u tk hk => ⟨.str _, H, I.kept hk, ⟨_, rfl⟩, q⟩) hz
  | dict h1 h2 h3 h4 =>
    cases ru
    exact repr_of_reads' rd hs (fun e => by cases nd with
      | false => exact n1 rfl
      | true => rw [n2 rfl] at e; cases e) hg (by omega) (fun _ _ e => e) (fun h2 u tk hk => ⟨.str _, H, I.kept hk, ⟨_, rfl⟩, q⟩) hz
end
end Kv
/-! The end of a law whose def shows values with repr. -/
namespace Kv
open PySem PySem.Spec PyProof.Rows L2
section
variable {P : Program} {w : World} {K : PySem.W.Frag} {mg mb : Str → Option Value} {CX : CXT} {k : Nat}
  {fa a : Addr} {fd : FuncData} {x : Str} {sp : Sp} {s1 : Shared} {vs : List Value} {ns : List Int}
/-- the list object of the script -/
abbrev scr (vs : List Value) : Obj := { cls := .type "list", data := .seq vs.toArray }
abbrev Done (s1 : Shared) (r : Result) (s2 : Shared) : Prop :=
  r = .ok (.ret (.bool true)) ∧ OldK s1.heap s2.heap ∧ s2.os = s1.os ∧ AllBare s2.gens
/-- from a heap in which at most the script is tracked -/
theorem law_from (H : Hp) (KX : K.In s1.heap) (hns : s1.heap.Ns mainGlobals mg) (hb : s1.heap.Ns builtinsNs mb)
    (hbb : ∀ y : Str, y ≠ "__name__" → mb y = bootBuiltins y) (hlim : s1.heap.NoLimit) (hg : s1.gens = #[])
    (ha : s1.heap.get? a = some (scr vs)) (hr : Room k callerA) (low : sysModules < s1.heap.objs.size)
    (F : ∀ base : Heap, K.In base → base.Ns mainGlobals mg → sysModules < base.objs.size →
      FnG P w K mg base CX k fa fd [x] sp)
    (bind : ∀ (s : Shared) (u : Value), BindsTo s fd ⟨[u], []⟩ [(x, u)])
    (hsp : sp [.ref a] H (fun v _ => v = .bl true) fun _ _ _ => False)
    (hCX : ∀ e s2, CX [] H s1 (fun _ _ _ => False) e s2 → False)
    (hO : Only H) (hok : HOk P w H s1.heap) (hA : ∀ b u, H b = some u → b = a)
    (hK : ∀ u, H a = some u → K.lookup a = none) :
    codeAny (model P w) callerA (.call (.ref fa) ⟨[.ref a], []⟩) (Done s1) s1 := by
  have nodict : ∀ {b : Addr} {o : Obj} {es : Array DictEntry} {ep : Nat},
      s1.heap.get? b = some o → o.data = .dict es ep → H b = none := by
    intro b o es ep e d
    cases q : H b with
    | none => rfl
    | some u =>
      rw [hA b u q, ha] at e
      cases e
      exact nomatch (show Data.seq vs.toArray _ = Data.dict es ep from d)
  have ns2 : ∀ {b : Addr} {m : Str → Option Value}, s1.heap.Ns b m → (hidT s1.heap H).Ns b m := by
    intro b m h
    obtain ⟨o, es, ep, e, d, r⟩ := h
    exact ⟨o, es, ep, hidT_get e (nodict e d), d, r⟩
  have kin : K.In (hidT s1.heap H) := by
    intro b o e
    refine hidT_get (KX b o e) ?_
    cases q : H b with
    | none => rfl
    | some u =>
      have z := hA b u q
      subst z
      rw [hK u q] at e
      cases e
  have md : Mod K mg (hidT s1.heap H) := by
    obtain ⟨mc, l1, l2⟩ := hlim
    exact ⟨kin, ns2 hns, ⟨mb, ns2 hb, hbb⟩, ⟨mc, ns2 l1, l2⟩⟩
  have e0 : Env0 P w K mg (hidT s1.heap H) callerA [] s1 H := by
    refine ⟨rfl, md, fun b o e => of_hidT e, Nat.le_of_eq (hidT_size _ _), trivial, ?_, hok, .of_eq hg⟩
    intro b z
    exact nomatch (show b ∈ ([] : List Addr) from z)
  have low2 : sysModules < (hidT s1.heap H).objs.size := by
    rw [hidT_size]
    exact low
  refine codeAny_mono ((F _ kin (ns2 hns) low2).goes callerA [] s1 H ⟨[.ref a], []⟩ [.ref a] [.ref a] _ _
    rfl hr e0 (bind s1 (.ref a)) (.cons rfl .nil) hsp) fun r s2 h => ?_
  cases r with
  | error e => exact (hCX e s2 h).elim
  | ok fl =>
    cases fl with
    | next => exact h.elim
    | brk => exact h.elim
    | cont => exact h.elim
    | ret u =>
      obtain ⟨v, H2, os, bare, un, hok2, r2, q2⟩ := h
      have q3 : v = .bl true := q2
      subst q3
      obtain rfl : u = Value.bool true := r2
      refine ⟨rfl, OldK.of_keep fun b o e => ?_, os, bare⟩
      rcases hO b with z | ⟨ob, xs, z⟩
      · exact un.keep b o e z (fun y => nomatch (show b ∈ ([] : List Addr) from y)) (by simp)
      · obtain ⟨e1, _⟩ := hok b _ z
        obtain ⟨e2, _⟩ := hok2 b _ (un.frzs b ob _ z)
        rw [e] at e1
        cases e1
        exact e2
/-- the script tracked, unless it is one of the module's own objects -/
theorem law_callG (KX : K.In s1.heap) (hns : s1.heap.Ns mainGlobals mg) (hb : s1.heap.Ns builtinsNs mb)
    (hbb : ∀ y : Str, y ≠ "__name__" → mb y = bootBuiltins y) (hlim : s1.heap.NoLimit) (hg : s1.gens = #[])
    (ha : s1.heap.get? a = some (scr vs)) (hi : IntsAre vs ns) (hl : ns.length ≤ sizeLine)
    (hr : Room k callerA) (low : sysModules < s1.heap.objs.size)
    (F : ∀ base : Heap, K.In base → base.Ns mainGlobals mg → sysModules < base.objs.size →
      FnG P w K mg base CX k fa fd [x] sp)
    (bind : ∀ (s : Shared) (u : Value), BindsTo s fd ⟨[u], []⟩ [(x, u)])
    (hsp : ∀ H : Hp, Only H → SqL K H a (ns.map V.int) →
      sp [.ref a] H (fun v _ => v = .bl true) fun _ _ _ => False)
    (hCX : ∀ H e s2, CX [] H s1 (fun _ _ _ => False) e s2 → False) :
    codeAny (model P w) callerA (.call (.ref fa) ⟨[.ref a], []⟩) (Done s1) s1 := by
  have rv : Vals (ns.map V.int) vs := vals_ints hi
  have len : vs.length = ns.length := by
    have := rv.length
    rw [List.length_map] at this
    exact this.symm
  cases hk : K.lookup a with
  | some o =>
    have e := KX a o hk
    rw [ha] at e
    cases e
    have sq : SqL K (fun _ => none) a (ns.map V.int) := by
      refine Or.inr ⟨_, vs.toArray, _, hk, rfl, rfl, rfl, ?_, by simpa using rv⟩
      rw [List.size_toArray, len]
      exact hl
    have on : Only fun _ => none := fun _ => Or.inl rfl
    refine law_from (fun _ => none) KX hns hb hbb hlim hg ha hr low F bind (hsp _ on sq) (hCX _) on ?_ ?_ ?_
    · intro b u z
      exact nomatch z
    · intro b u z
      exact nomatch z
    · intro u z
      exact nomatch z
  | none =>
    let H : Hp := fun b => if b = a then some (.frz (scr vs) (.lst (ns.map V.int))) else none
    have at1 : H a = some (.frz (scr vs) (.lst (ns.map V.int))) := if_pos rfl
    have out : ∀ b u, H b = some u → b = a ∧ u = .frz (scr vs) (.lst (ns.map V.int)) := by
      intro b u z
      by_cases hb : b = a
      · subst hb
        rw [at1] at z
        exact ⟨rfl, (Option.some.inj z).symm⟩
      · have z2 : (none : Option HO) = some u := (if_neg hb).symm.trans z
        cases z2
    have on : Only H := by
      intro b
      by_cases hb : b = a
      · exact Or.inr ⟨_, _, by rw [hb]; exact at1⟩
      · exact Or.inl (if_neg hb)
    refine law_from H KX hns hb hbb hlim hg ha hr low F bind (hsp _ on (Or.inl (Or.inr ⟨_, at1⟩))) (hCX _) on ?_
      (fun b u z => (out b u z).1) fun _ _ => hk
    intro b u z
    obtain ⟨rfl, rfl⟩ := out b u z
    refine ⟨ha, ?_, vs, _, rv, ha⟩
    rw [List.length_map]
    exact hl
end
/-- the goal that k_head leaves, from the law's promise -/
theorem walk_ofG {l : PySem.W.OpenLaw} {n k : Nat} {q : Program} {loose : List Str}
    {XP : (Str → Option Value) → Heap → Prop} {YP : World → Heap → Prop} {d : DefRec} {K : Params → PySem.W.Frag}
    {sp : World → Sp} {x : Str}
    (hn : l.most = some n) (hn2 : n ≤ sizeLine) (hdf : d.params.defaults = []) (hr : Room k callerA)
    (hY : ∀ (w : World) (h : Heap), YP w h → (K w.params).In h)
    (F : ∀ (w : World) (mg : Str → Option Value) (fa : Addr) (h : Heap), (K w.params).In h →
      h.Ns mainGlobals mg → mg d.name = some (.ref fa) →
      ∃ fd : FuncData, (∀ (s : Shared) (u : Value), BindsTo s fd ⟨[u], []⟩ [(x, u)]) ∧
        ∀ base : Heap, (K w.params).In base → base.Ns mainGlobals mg → sysModules < base.objs.size →
          FnG l.prog w (K w.params) mg base CX0 k fa fd [x] (sp w))
    (hsp : ∀ (w : World) (H : Hp) (a : Addr) (ns : List Int), ns.length ≤ n →
      (∀ z ∈ ns, Builtin.Int.intBits z ≤ 1048576) → Only H → SqL (K w.params) H a (ns.map V.int) →
      sp w [.ref a] H (fun v _ => v = .bl true) fun _ _ _ => False) :
    PySem.W.WalkO q loose XP YP l.row.toRowW d [] (fun f vs => PySem.call f vs) := by
  refine Att.attach_callB hn hdf ?_
  intro w s0 s1 mg mb fa o pm cd doc a vs ns G Y ho hd hcd hmg hobj hints hlen hbits hgens
  have KX := hY w _ Y
  obtain ⟨fd, hb, hF⟩ := F w mg fa _ KX G.T.g hmg
  exact law_callG KX G.T.g G.T.b G.T.builtins G.T.nolimit hgens hobj hints (Nat.le_trans hlen hn2) hr G.low hF hb
    (fun H hO hS => hsp w H a ns hlen hbits hO hS) fun H e s2 z => z
end Kv
/-! Texts of few plain signs; what isinstance says of a datum. -/
namespace Kv
open PySem PySem.Spec PyProof.Rows L2
/-- at most n signs, all below 128 -/
def Sm (n : Nat) (x : Str) : Prop := x.length ≤ n ∧ ∀ c ∈ x.cps.toList, c < 128
theorem len_list (x : Str) : x.length = x.cps.toList.length := by
  show x.cps.size = _
  rw [Array.length_toList]
theorem Sm.mono {n m : Nat} {x : Str} (h : Sm n x) (hn : n ≤ m) : Sm m x := ⟨Nat.le_trans h.1 hn, h.2⟩
theorem Sm.app {n m : Nat} {x y : Str} (h : Sm n x) (k : Sm m y) : Sm (n + m) (x ++ y) := by
  have e : (x ++ y).cps.toList = x.cps.toList ++ y.cps.toList := TL.tl_append x y
  refine ⟨?_, fun c hc => ?_⟩
  · rw [len_list, e, List.length_append, ← len_list, ← len_list]
    exact Nat.add_le_add h.1 k.1
  · rw [e] at hc
    rcases List.mem_append.mp hc with z | z
    · exact h.2 c z
    · exact k.2 c z
theorem Sm.cut {n : Nat} {x : Str} (h : Sm n x) (lo hi : Option Int) : Sm n (cutS x lo hi) := by
  have e : (cutS x lo hi).cps.toList = (x.cps.toList.drop (HT.sIx x.length 0 lo)).take (HT.sIx x.length x.length hi - HT.sIx x.length 0 lo) := by
    unfold cutS
    rfl
  refine ⟨?_, fun c hc => ?_⟩
  · rw [len_list, e]
    rw [List.length_take, List.length_drop, ← len_list]
    have := h.1
    omega
  · rw [e] at hc
    exact h.2 c (List.mem_of_mem_drop (List.mem_of_mem_take hc))
theorem Sm.upper {n : Nat} {x : Str} (h : Sm n x) : Sm n (Txt.upper x) := by
  rw [upper_ascii h.2]
  refine ⟨?_, fun c hc => ?_⟩
  · show (x.cps.map up1).size ≤ n
    rw [Array.size_map]
    exact h.1
  · have hc2 : c ∈ (x.cps.map up1).toList := hc
    rw [Array.toList_map] at hc2
    obtain ⟨d, hd, rfl⟩ := List.mem_map.mp hc2
    have := h.2 d hd
    unfold up1
    split <;> omega
theorem joinL_nil : ∀ ps : List (List Nat), TL.joinL [] ps = ps.flatten
  | [] => rfl
  | [p] => by simp [TL.joinL]
  | p :: q :: r => by
    show p ++ ([] ++ TL.joinL [] (q :: r)) = _
    rw [joinL_nil (q :: r)]
    simp
/-- texts of one plain sign each, joined by nothing -/
theorem Sm.join : ∀ {ys : List Str}, (∀ y ∈ ys, Sm 1 y) → Sm ys.length (Txt.join "" ys) := by
  intro ys hy
  have e : (Txt.join "" ys).cps.toList = (ys.map TL.tl).flatten := by
    rw [TL.join_eq]
    show TL.tl (Str.join _ _) = _
    rw [TL.tl_join]
    exact joinL_nil _
  refine ⟨?_, fun c hc => ?_⟩
  · rw [len_list, e]
    clear e
    induction ys with
    | nil => exact Nat.le_refl _
    | cons y r ih =>
      have h1 := (hy y (List.mem_cons_self ..)).1
      have h2 := ih fun z hz => hy z (List.mem_cons_of_mem _ hz)
      rw [len_list] at h1
      simp only [List.map_cons, List.flatten_cons, List.length_append, List.length_cons]
      have h3 : (TL.tl y).length ≤ 1 := h1
      omega
  · rw [e] at hc
    obtain ⟨l, hl, hcl⟩ := List.mem_flatten.mp hc
    obtain ⟨y, hm, rfl⟩ := List.mem_map.mp hl
    exact (hy y hm).2 c hcl
theorem Sm.shown {n : Nat} {x : Str} (h : Sm n x) : (reprText x).length ≤ 10 * n + 2 := by
  have := PySem.StrLaws.reprText_len x fun c hc => Nat.lt_trans (h.2 c hc) (by decide)
  have := h.1
  omega
theorem sz1 : ∀ {n : Nat}, n ≤ 1000 → n < sizeLine := fun h => small1000 h
theorem szle {n : Nat} (h : n ≤ 10000) : n ≤ sizeLine := Nat.le_trans h (by decide)
theorem Sm.le {n : Nat} {x : Str} (h : Sm n x) (hn : n ≤ 10000 := by decide) : x.length ≤ sizeLine := szle (Nat.le_trans h.1 hn)
theorem Sm.le2 {n m : Nat} {x y : Str} (h : Sm n x) (k : Sm m y) (hn : n + m ≤ 10000 := by decide) : x.length + y.length ≤ sizeLine :=
  szle (Nat.le_trans (Nat.add_le_add h.1 k.1) hn)
theorem atI_some {α : Type} {L : List α} {d : Int} (h0 : 0 ≤ d) (h1 : d < L.length) : ∃ c, atI L d = some c ∧ c ∈ L := by
  obtain ⟨j, rfl⟩ := Int.eq_ofNat_of_zero_le h0
  have hj : j < L.length := by omega
  exact ⟨L[j], atI_nat (List.getElem?_eq_getElem hj), List.getElem_mem hj⟩
/-- what isinstance(x, str) says of a datum -/
theorem Sh.ty {K : PySem.W.Frag} {nd : Bool} {H : Hp} {v : V} {d : PyData} (h : Sh K nd H v d) :
    ∃ T : String, TyX K H v (.type T) ∧ ((∃ x, v = .str x ∧ T = "str") ∨ ((∀ x, v ≠ .str x) ∧ (T = "NoneType" ∨ T = "bool" ∨ T = "int" ∨ T = "list" ∨ T = "tuple" ∨ T = "dict"))) := by
  cases h with
  | non => exact ⟨_, .base .non, .inr ⟨(fun x e => nomatch e), by simp⟩⟩
  | bl b => exact ⟨_, .base (.bl b), .inr ⟨(fun x e => nomatch e), by simp⟩⟩
  | int i => exact ⟨_, .base (.int i), .inr ⟨(fun x e => nomatch e), by simp⟩⟩
  | str x => exact ⟨_, .base (.str x), .inl ⟨x, rfl, rfl⟩⟩
  | lst hs _ _ =>
    refine ⟨"list", ?_, .inr ⟨(fun x e => nomatch e), by simp⟩⟩
    rcases hs with (h | ⟨o, h⟩) | ⟨o, its, n, hk, hc, _⟩
    · exact .base (.lst h)
    · exact .base (.frz h)
    · exact .kList hk hc
  | tup hs _ =>
    refine ⟨"tuple", ?_, .inr ⟨(fun x e => nomatch e), by simp⟩⟩
    rcases hs with (h | ⟨o, h⟩) | ⟨o, its, n, hk, hc, _⟩
    · exact .base (.tup h)
    · exact .fTuple h
    · exact .kTuple hk hc
  | dict _ h _ _ => exact ⟨"dict", .base (.dK h), .inr ⟨(fun x e => nomatch e), by simp⟩⟩
mutual
theorem Sh.same {K : PySem.W.Frag} {nd : Bool} {H H' : Hp} (s : Same H H') : ∀ {v : V} {d : PyData}, Sh K nd H v d → Sh K nd H' v d
  | _, _, .non => .non
  | _, _, .bl b => .bl b
  | _, _, .int i => .int i
  | _, _, .str x => .str x
  | _, _, .lst h1 h2 h3 => .lst (s.seq h1) h2 (ShAll.same s h3)
  | _, _, .tup h1 h3 => .tup (by
      rcases h1 with (h | ⟨o, h⟩) | h
      · exact .inl (.inl (s _ _ h))
      · exact .inl (.inr ⟨o, s _ _ h⟩)
      · exact .inr h) (ShAll.same s h3)
  | _, _, .dict e h1 h2 h3 => .dict e (s _ _ h1) (ShAll.same s h2) (ShAll.same s h3)
theorem ShAll.same {K : PySem.W.Frag} {nd : Bool} {H H' : Hp} (s : Same H H') : ∀ {vs : List V} {ds : List PyData}, ShAll K nd H vs ds → ShAll K nd H' vs ds
  | _, _, .nil => .nil
  | _, _, .cons h1 h2 => .cons (Sh.same s h1) (ShAll.same s h2)
end
/-! ### f(k = v): keywords alone -/
section
variable {X : Cx} {CX : CXT} {k : Nat} {f : Addr} {fd : FuncData} {ps ks : List Str} {sp : Sp} {E : XK}
  {x : Str} {p pos : Pos} {kws : List Keyword} {tk : TA}
  {g : List Value → List Value → List Value} {gV : List V → List V → List V}
theorem pe_kwOnly (F : FnOk X.prog X.w X.K X.mg X.base CX k f fd ps sp) (hr : Room k X.A) (hg : Gl X x)
    (hm : X.mg x = some (.ref f)) (hk : PySem.W.keepIn X.K (.ref f) = true) (hb : KBinds X.K fd ps ks g gV)
    (hx : Passes CX X E) (hkw : PK X kws tk)
    (hall : (backToKw pos (keywordEach kws X.env)).all (·.1.isSome) = true := by rfl)
    (hks : (backToKw pos (keywordEach kws X.env)).filterMap (·.1) = ks := by rfl)
    (hdb : (x == ("__debug__" : Str)) = false := by decide)
    (hpl : ((backTo pos (starEach [] X.env)).any (·.1) || (backToKw pos (keywordEach kws X.env)).any (·.1.isNone)) = false := by rfl) :
    PE X (.Call (.Name x p) [] kws pos) (tCallK sp gV E tNil tk) := by
  constructor
  intro pins s σ H Q I h
  refine wpAny_Call_Name_kw (ld_glob I hg hm ?_ hdb)
  refine PySem.W.callWith_KW0 (h₀ := X.base) I.ok.mod.kin hk hall ?_ hpl
  refine thn (hkw.run pos pins s σ H _ I h) fun ws s2 ⟨zs, H2, I2, rz, q2⟩ => ⟨I2.kIn, ?_⟩
  rw [hks]
  exact run_fnk (us := []) (vs := []) F hr hb hx I2 .nil rz q2
end
end Kv
/-! Data that are small enough to be shown. -/
namespace Kv
open PySem PySem.Spec PyProof.Rows L2
def Fit (n m : Nat) (d : PyData) : Prop := d.showable = true ∧ d.leavesShort 250 = true ∧ d.weight ≤ n ∧ d.depth ≤ m
def FitAll (n m : Nat) (ds : List PyData) : Prop :=
  PyData.showableAll ds = true ∧ PyData.leavesShortAll 250 ds = true ∧ PyData.weightAll ds ≤ n ∧ PyData.depthAll ds ≤ m
def FitKv (n m : Nat) (ds : List (PyData × PyData)) : Prop :=
  PyData.showableKv ds = true ∧ PyData.leavesShortKv 250 ds = true ∧ PyData.weightKv ds ≤ n ∧ PyData.depthKv ds ≤ m
theorem Fit.mono {n m n' m' : Nat} {d : PyData} (h : Fit n m d) (a : n ≤ n') (b : m ≤ m') : Fit n' m' d :=
  ⟨h.1, h.2.1, Nat.le_trans h.2.2.1 a, Nat.le_trans h.2.2.2 b⟩
theorem FitAll.mono {n m n' m' : Nat} {d : List PyData} (h : FitAll n m d) (a : n ≤ n') (b : m ≤ m') : FitAll n' m' d :=
  ⟨h.1, h.2.1, Nat.le_trans h.2.2.1 a, Nat.le_trans h.2.2.2 b⟩
theorem fit_non : Fit 0 0 .none := ⟨by simp [PyData.showable], by simp [PyData.leavesShort], by simp [PyData.weight], by simp [PyData.depth]⟩
theorem fit_bl {b : Bool} : Fit 0 0 (.bool b) := ⟨by simp [PyData.showable], by simp [PyData.leavesShort], by simp [PyData.weight], by simp [PyData.depth]⟩
theorem log2_small {i : Int} (h : i.natAbs ≤ 10 ^ 60) : i.natAbs.log2 < 200 := by
  by_cases h0 : i.natAbs = 0
  · rw [h0]
    decide
  · exact (Nat.log2_lt h0).mpr (Nat.lt_of_le_of_lt h (by decide))
theorem fit_int {i : Int} (h : i.natAbs ≤ 10 ^ 60) : Fit 200 0 (.int i) := by
  have hl := log2_small h
  refine ⟨?_, ?_, ?_, by simp [PyData.depth]⟩
  · simp only [PyData.showable, decide_eq_true_eq]
    omega
  · simp only [PyData.leavesShort]
    refine decide_eq_true ?_
    have e := int_text_length_le (k := 200) (by decide) hl
    have e2 : (PyData.shown (.int i)).length = (toString i).length := by
      simp only [PyData.shown]
      exact PySem.ofString_length _
    omega
  · simp only [PyData.weight]
    split <;> omega
theorem Sm.fit {n : Nat} {x : Str} (h : Sm n x) : Fit n 0 (.str x) := by
  refine ⟨by simp [PyData.showable], ?_, ?_, by simp [PyData.depth]⟩
  · simp only [PyData.leavesShort, List.all_eq_true, decide_eq_true_eq]
    intro c hc
    exact Nat.lt_trans (h.2 c hc) (by decide)
  · simp only [PyData.weight]
    exact h.1
theorem fitAll_nil {m : Nat} : FitAll 0 m [] := ⟨by simp [PyData.showableAll], by simp [PyData.leavesShortAll], by simp [PyData.weightAll], by simp [PyData.depthAll]⟩
theorem FitAll.cons {n n' m : Nat} {d : PyData} {ds : List PyData} (a : Fit n m d) (b : FitAll n' m ds) : FitAll (n + 1 + n') m (d :: ds) := by
  obtain ⟨a1, a2, a3, a4⟩ := a
  obtain ⟨b1, b2, b3, b4⟩ := b
  refine ⟨?_, ?_, ?_, ?_⟩
  · simp only [PyData.showableAll, a1, b1, Bool.and_self]
  · simp only [PyData.leavesShortAll, a2, b2, Bool.and_self]
  · simp only [PyData.weightAll]
    omega
  · simp only [PyData.depthAll]
    omega
theorem Fit.lst {n m : Nat} {ds : List PyData} (a : FitAll n m ds) : Fit n (m + 1) (.list ds) := by
  obtain ⟨a1, a2, a3, a4⟩ := a
  refine ⟨?_, ?_, ?_, ?_⟩
  · simp only [PyData.showable, a1]
  · simp only [PyData.leavesShort, a2]
  · simp only [PyData.weight]
    omega
  · simp only [PyData.depth]
    omega
theorem Fit.tup {n m : Nat} {ds : List PyData} (a : FitAll n m ds) : Fit n (m + 1) (.tuple ds) := by
  obtain ⟨a1, a2, a3, a4⟩ := a
  refine ⟨?_, ?_, ?_, ?_⟩
  · simp only [PyData.showable, a1]
  · simp only [PyData.leavesShort, a2]
  · simp only [PyData.weight]
    omega
  · simp only [PyData.depth]
    omega
theorem fitKv_nil {m : Nat} : FitKv 0 m [] := ⟨by simp [PyData.showableKv], by simp [PyData.leavesShortKv], by simp [PyData.weightKv], by simp [PyData.depthKv]⟩
theorem Fit.consKv {n n' n2 m : Nat} {d e : PyData} {ds : List (PyData × PyData)} (a : Fit n m d) (c : Fit n2 m e) (b : FitKv n' m ds) : FitKv (n + n2 + 2 + n') m ((d, e) :: ds) := by
  obtain ⟨a1, a2, a3, a4⟩ := a
  obtain ⟨b1, b2, b3, b4⟩ := b
  obtain ⟨c1, c2, c3, c4⟩ := c
  refine ⟨?_, ?_, ?_, ?_⟩
  · simp only [PyData.showableKv, a1, b1, c1, Bool.and_self]
  · simp only [PyData.leavesShortKv, a2, b2, c2, Bool.and_self]
  · simp only [PyData.weightKv]
    omega
  · simp only [PyData.depthKv]
    omega
theorem Fit.dict {n m : Nat} {ds : List (PyData × PyData)} (a : FitKv n m ds) : Fit n (m + 1) (.dict ds) := by
  obtain ⟨a1, a2, a3, a4⟩ := a
  refine ⟨?_, ?_, ?_, ?_⟩
  · simp only [PyData.showable, a1]
  · simp only [PyData.leavesShort, a2]
  · simp only [PyData.weight]
    omega
  · simp only [PyData.depth]
    omega
theorem Fit.ok {n m : Nat} {d : PyData} (h : Fit n m d) (hn : n ≤ 60000) (hm : m ≤ 60) : d.showable = true ∧ d.shown.length ≤ sizeLine ∧ d.depth ≤ 60 := by
  obtain ⟨h1, h2, h3, h4⟩ := h
  refine ⟨h1, ?_, by omega⟩
  have := PyData.shown_le 250 (by decide) d h2
  rw [sizeLine_eq]
  omega
/-- a value that can be shown -/
def Good (K : PySem.W.Frag) (H : Hp) (v : V) : Prop := ∃ (nd : Bool) (d : PyData), Sh K nd H v d ∧ Fit 2000 20 d ∧ ∀ x, v = .str x → Sm 1000 x
theorem Good.same {K : PySem.W.Frag} {H H' : Hp} {v : V} (g : Good K H v) (s : Same H H') : Good K H' v := by
  obtain ⟨nd, d, h, r⟩ := g
  exact ⟨nd, d, h.same s, r⟩
theorem Good.non {K : PySem.W.Frag} {H : Hp} : Good K H .non := ⟨true, _, .non, fit_non.mono (by decide) (by decide), fun x e => nomatch e⟩
theorem Good.bl {K : PySem.W.Frag} {H : Hp} {b : Bool} : Good K H (.bl b) := ⟨true, _, .bl b, fit_bl.mono (by decide) (by decide), fun x e => nomatch e⟩
theorem Good.int {K : PySem.W.Frag} {H : Hp} {i : Int} (h : i.natAbs ≤ 10 ^ 60) : Good K H (.int i) := ⟨true, _, .int i, (fit_int h).mono (by decide) (by decide), fun x e => nomatch e⟩
theorem Good.str {K : PySem.W.Frag} {H : Hp} {x : Str} {n : Nat} (h : Sm n x) (hn : n ≤ 1000 := by decide) : Good K H (.str x) :=
  ⟨true, _, .str x, h.fit.mono (by omega) (by decide), fun y e => by
    cases e
    exact h.mono hn⟩
end Kv
/-! len(set(t)), t a tuple of texts, of any number. -/
namespace Kv
open PySem PySem.Spec PyProof.Rows L2
/-- how many different texts stand among the first i -/
def met (xs : List Str) : Nat → Nat
  | 0 => 0
  | i + 1 => if (xs.take i).any (· == xs.getD i Str.empty) then met xs i else met xs i + 1
theorem met_le (xs : List Str) : ∀ i, met xs i ≤ i
  | 0 => Nat.le_refl _
  | i + 1 => by
    have := met_le xs i
    show (if _ then met xs i else met xs i + 1) ≤ _
    split
    · exact Nat.le_succ_of_le this
    · exact Nat.succ_le_succ this
theorem met_nodup {xs : List Str} (h : xs.Nodup) : ∀ i, i ≤ xs.length → met xs i = i
  | 0, _ => rfl
  | i + 1, hi => by
    have ih := met_nodup h i (by omega)
    show (if _ then met xs i else met xs i + 1) = _
    have e : (xs.take i).any (· == xs.getD i Str.empty) = false := by
      rw [List.any_eq_false]
      intro y hy hb
      have hb2 : y = xs.getD i Str.empty := by simpa using hb
      rw [List.getD_eq_getElem?_getD, List.getElem?_eq_getElem (by omega : i < xs.length)] at hb2
      have hb3 : y = xs[i] := hb2
      obtain ⟨j, hj, e1⟩ := List.getElem_of_mem hy
      rw [List.getElem_take] at e1
      have hj2 : j < i := by
        rw [List.length_take] at hj
        omega
      exact (List.pairwise_iff_getElem.mp h j i (by omega) (by omega) hj2) (by rw [e1, hb3])
    rw [e]
    show met xs i + 1 = i + 1
    rw [ih]
section
variable {prog : Program} {w : World} {A : Around} {R : Result → Shared → Prop} {I : Addr} {fp wr : List Addr}
  {G : Array GenState → Array GenState → Prop} {n : Nat} {P : Nat → Value → Prop} {Z : Nat → Shared → Prop}
/-- what the set holds behind i turns -/
abbrev SetBy (prog : Program) (w : World) (h : Heap) (a : Addr) (xs : List Str) (i : Nat) : Prop :=
  h.SetOf (PySem.strKind prog w) a (fun y => (xs.take i).any (· == y)) (met xs i)
theorem SetBy.kept {h h2 : Heap} {a : Addr} {xs : List Str} {i : Nat} (q : SetBy prog w h a xs i)
    (k : ∀ o, h.get? a = some o → h2.get? a = some o) : SetBy prog w h2 a xs i := by
  obtain ⟨o, es, ep, tb, ho, rest⟩ := q
  exact ⟨o, es, ep, tb, k _ ho, rest⟩
theorem fill_texts (W : WalksS prog w A.in1 I fp wr G n P Z) (a : Addr) (ha : a ∉ fp) (xs : List Str)
    (hl : xs.length = n) (hn : n + 1 < scanBound) (hv : ∀ i v, P i v → ∃ t, v = .str (xs.getD i Str.empty) t) :
    ∀ (k i : Nat) (s : Shared), n - i = k → i ≤ n → Z i s → SetBy prog w s.heap a xs i →
      (∀ s2, Moved (a :: wr) G s s2 → SetBy prog w s2.heap a xs n → R (.ok (.ret .none)) s2) →
      codeAny (model prog w) A (.builtin "set.update.loop" ⟨[.ref a, .ref I], []⟩) R s := by
  have haw : a ∉ wr := fun z => ha (W.sub _ z)
  have sub : ∀ b ∈ wr, b ∈ a :: wr := fun b hb => List.mem_cons_of_mem _ hb
  intro k
  induction k with
  | zero =>
    intro i s hk hi hz hS hR
    obtain rfl : i = n := by omega
    refine codeAny_builtin PyProof.Rows.F.entry_set_update_loop ?_
    rw [Around.under_plainId PyProof.Rows.F.plain_set_update_loop _]
    show wpAny _ A.in1 (pyNext (.ref I) >>= _) _ _ s
    refine wpAny_bind (W.done s _ _ hz ?_)
    intro s2 hm
    show wpAny _ A.in1 (ret Value.none) _ _ s2
    refine wpAny_pure (hR s2 (hm.mono sub) (hS.kept ?_))
    intro o ho
    exact hm.heap a _ haw ho
  | succ k ih =>
    intro i s hk hi hz hS hR
    have lt : i < n := by omega
    have mle := met_le xs i
    refine codeAny_builtin PyProof.Rows.F.entry_set_update_loop ?_
    rw [Around.under_plainId PyProof.Rows.F.plain_set_update_loop _]
    show wpAny _ A.in1 (pyNext (.ref I) >>= _) _ _ s
    refine wpAny_bind (W.item i s _ _ lt hz ?_)
    intro v s2 hP hz2 hm
    obtain ⟨t, rfl⟩ := hv i v hP
    have hS2 : SetBy prog w s2.heap a xs i := hS.kept fun o ho => hm.heap a _ haw ho
    show wpAny _ A.in1 (holding [Value.str (xs.getD i Str.empty) t]
      (setAdd a (.str (xs.getD i Str.empty) t)) >>= _) _ _ s2
    refine wpAny_bind (wpAny_holding ?_)
    unfold setAdd
    refine wpAny_holding ?_
    refine wpAny_bind ((PySem.strKind prog w).pyHash (k := xs.getD i Str.empty) (strKind_is _ _ _ _) ?_)
    refine wpAny_setAddHashed_of (knd := PySem.strKind prog w) (s := { s2 with toks := s2.toks + 1 })
      (strKind_is _ _ _ _) rfl hS2 (by omega) ?_
    intro h3 same hS3
    have hS4 : SetBy prog w h3 a xs (i + 1) := by
      refine SetOf_congr hS3 ?_ rfl
      intro y
      have ei : xs[i]? = some (xs.getD i Str.empty) := by
        rw [List.getD_eq_getElem?_getD, List.getElem?_eq_getElem (by omega : i < xs.length)]
        rfl
      rw [List.take_add_one, ei, List.any_append]
      congr 1
      show decide (y = xs.getD i Str.empty) = ([xs.getD i Str.empty].any (· == y))
      simp only [List.any_cons, List.any_nil, Bool.or_false]
      by_cases e : y = xs.getD i Str.empty
      · rw [decide_eq_true e, ← e]
        exact (beq_self_eq_true y).symm
      · rw [decide_eq_false e]
        exact (beq_eq_false_iff_ne.mpr fun z => e z.symm).symm
    refine wpAny_pure ⟨plainId_quiet PyProof.Rows.F.plain_set_update_loop _, ?_⟩
    refine ih (i + 1) _ (by omega) lt (W.frame _ s2 _ _ hz2 (Nat.le_succ _) ?_) hS4 ?_
    · intro b hb o e
      rw [same.2 b (fun z : b = a => ha (z ▸ hb))]
      exact e
    · intro s5 hm5 hS5
      refine hR s5 (Moved.trans W.gtrans ((hm.mono sub).then_heap (Nat.le_succ _) ?_) hm5) hS5
      intro b o hb e
      rw [same.2 b (fun z : b = a => hb (z ▸ List.mem_cons_self))]
      exact e
end
/-- an empty new set -/
abbrev emptySet (led : Bool) : Obj := { cls := .type "set", dict := none, data := .set #[] 0 (.fresh 0 0 led) }
section
variable {prog : Program} {w : World} {A : Around} {E : Value → Shared → Prop} {s : Shared}
set_option maxHeartbeats 3200000 in
theorem set_of_texts {t : Addr} {its : Array Value} {xs : List Str} {Q : Value → Shared → Prop}
    (hh : A.handled = none) (ht : s.heap.IsTuple t its) (hx : PyProof.Rows.StrsAre its.toList xs)
    (hb : xs.length + 1 < scanBound)
    (h : ∀ (h2 : Heap) (tk : Nat), SetBy prog w h2 s.heap.objs.size xs its.size →
      (∀ b o, b < s.heap.objs.size → s.heap.get? b = some o → h2.get? b = some o) →
      Q (.ref s.heap.objs.size) { s with heap := h2, toks := tk }) :
    wpAny (model prog w) A (call (.type "set") [.ref t]) Q E s := by
  obtain ⟨cc, ctl, hmro⟩ := PySem.F.called_set.mro
  have k1 := PySem.F.called_set.made
  have k2 := PySem.F.called_set.sub
  have k3 := PySem.F.called_set.notType
  have k4 := PySem.F.called_set.canCreate
  have k5 := PySem.F.typeCall_set_1 (.ref t)
  refine wpAny_call (codeAny_of_tree ?_)
  show wpAny _ _ (callAny (.type "set") _) _ _ _
  refine wpAny_pure ⟨Code.quiet_builtin _ (by decide +kernel),
    codeAny_builtin PySem.F.entry_type_call ?_⟩
  rw [Around.under_plain (weight_type_call_type "set" [.ref t] []) rfl]
  repeat (any_goals (first | assumption | wp_step))
  refine codeAny_mono (code_set_new_1 (.ref t) (E := E)
    (Q₁ := fun obj s1 => ∃ led : Bool, obj = .ref s.heap.objs.size ∧
      s1 = { s with heap := s.heap.push (emptySet led) }) fun led => ⟨led, rfl, rfl⟩) fun r s1 hr => ?_
  cases r with
  | error e => exact hr
  | ok fl =>
    cases fl with
    | next => exact hr.elim
    | brk => exact hr.elim
    | cont => exact hr.elim
    | ret obj =>
      obtain ⟨led, rfl, rfl⟩ := hr
      have hS : (s.heap.push (emptySet led)).get? s.heap.objs.size = some (emptySet led) :=
        Heap.get?_push_size _ rfl
      have hT : Shared.TypeIs { s with heap := s.heap.push (emptySet led) }
        (.ref s.heap.objs.size) "set" := ⟨_, hS, rfl⟩
      have k6 := PySem.F.called_set.init.lookup
      have k7 := PySem.F.called_set.init.bind (.ref s.heap.objs.size)
      repeat (any_goals (first | assumption | wp_step))
      refine codeAny_mono (codeAny_call_builtin
        (R := wants (fun r s2 => r = .none ∧ ∃ h2 tk, s2 = { s with heap := h2, toks := tk } ∧
          SetBy prog w h2 s.heap.objs.size xs its.size ∧
          (∀ b o, b < s.heap.objs.size → s.heap.get? b = some o → h2.get? b = some o)) E)
        PySem.F.called_set.init.plain PySem.F.entry_set_init (check_set_init_1 hT ?_)) fun r2 s2 hr2 => ?_
      · obtain ⟨ot, hot, hc, nt, hd⟩ := ht
        obtain ⟨c1, d1, dt, sl⟩ := ot
        simp only at hc hd
        subst hc hd
        have hot2 := Heap.get?_push_of_some (emptySet led) hot
        have k8 := PySem.F.sub_tuple_set
        have k9 := PySem.F.sub_tuple_frozenset
        have k10 : (Value.type "tuple" == Value.type "dict") = false := by decide
        have ht1 : (s.heap.push (emptySet led)).IsTuple t its := ⟨_, hot2, rfl, nt, rfl⟩
        unfold Builtin.«set.__init__» noKeywords Builtin.Frozenset.updateFrom
        generalize hPI : pyIter = PI
        wp_walk
        subst hPI
        refine wpAny_pyIter_tuple ht1 ?_
        refine wpAny_bind (wpAny_runValue ?_)
        have ltS : t < s.heap.objs.size := Heap.lt_size hot
        have hh3 : A.in1.in1.in1.handled = none := by simp [hh]
        have ne1 : t ≠ (s.heap.push (emptySet led)).objs.size := by
          rw [Heap.size_push]
          exact Nat.ne_of_lt (Nat.lt_succ_of_lt ltS)
        have nf : s.heap.objs.size ∉ [(s.heap.push (emptySet led)).objs.size, t] := by
          rw [Heap.size_push]
          intro z
          rcases List.mem_cons.mp z with y | y
          · exact absurd y (Nat.ne_of_lt (Nat.lt_succ_self _))
          · exact absurd (List.mem_singleton.mp y) (Nat.ne_of_gt ltS)
        have sz : xs.length = its.size := by
          rw [← StrsAre.len_eq hx, Array.length_toList]
        refine fill_texts ((Walks.tuple hh3 _ t ne1 its).toS) s.heap.objs.size nf xs sz (by omega)
          (fun i v e => SS.strs_at hx i v (by rw [Array.getElem?_toList]; exact e)) (its.size - 0) 0 _ (by omega) (Nat.zero_le _)
          ⟨⟨_, Heap.get?_push_size _ rfl, rfl, rfl⟩, (ht1.push _)⟩ ?c0 ?c1
        case c0 =>
          refine PyProof.Rows.SetOf_congr ((PyProof.Rows.setObjOf_fresh (knd := PySem.strKind prog w) led).setOf
            (Heap.get?_push_of_some _ hS) (by unfold scanBound; omega)) (fun _ => rfl) rfl
        case c1 =>
          intro s3 hm hS3
          obtain ⟨h3, g3, d3, tk3, os3⟩ := s3
          obtain rfl : g3 = s.gens := hm.gens
          obtain rfl : d3 = s.drawn := hm.drawn
          obtain rfl : os3 = s.os := hm.os
          show wpAny _ _ _ _ _ _
          refine wpAny_pure ?_
          show wpAny _ _ (ret Value.none) _ _ _
          refine wpAny_pure ⟨rfl, h3, tk3, rfl, hS3, ?_⟩
          intro b o hb e
          refine hm.heap b o ?_ (Heap.get?_push_of_some _ (Heap.get?_push_of_some _ e))
          intro z
          rcases List.mem_cons.mp z with y | y
          · exact absurd y (Nat.ne_of_lt hb)
          · have y2 := List.mem_singleton.mp y
            rw [Heap.size_push] at y2
            exact absurd y2 (Nat.ne_of_lt (Nat.lt_succ_of_lt hb))
      · cases r2 with
        | error e => exact hr2
        | ok fl2 =>
          cases fl2 with
          | next => exact hr2.elim
          | brk => exact hr2.elim
          | cont => exact hr2.elim
          | ret r =>
            obtain ⟨rfl, h2, tk, rfl, hS2, kp⟩ := hr2
            repeat (any_goals (first | assumption | wp_step))
            exact h _ _ hS2 kp
end
/-- len(set(t)) -/
def tLenTexts (K : PySem.W.Frag) (ta : TE) : TE := fun σ H Q => ta σ H fun x H1 =>
  ∃ (l : Addr) (xs : List Str), x = .ref l ∧ SqT K H1 l (xs.map V.str) ∧ xs.length ≤ 4000 ∧ Q (.int (met xs xs.length : Nat)) H1
section
variable {X : Cx} {a : Expr} {ta : TE} {p p2 q pos : Pos}
theorem pe_lenTexts (hc : X.calm = true) (hg : Gl X "len") (hm : X.mg "len" = none) (hg2 : Gl X "set")
    (hm2 : X.mg "set" = none) (ha : PE X a ta)
    (na : starEach [a] X.env = (false, eval a X.env) :: starEach [] X.env := by rfl) :
    PE X (.Call (.Name "len" p) [.Call (.Name "set" p2) [a] [] q] [] pos) (tLenTexts X.K ta) := by
  constructor
  intro pins s σ H Q I h
  refine Call_ (ld_blt I hg hm boot_len ?_)
  refine PyProof.Rows.callWith_builtin1
    (PyProof.Rows.args_cons ?_ rfl) rfl rfl
  refine Call_ (ld_blt I hg2 hm2 boot_set ?_)
  refine PyProof.Rows.callWith_type1 (PyProof.Rows.args_cons (thn (ha.run pins s σ H _ I h)
    fun v s1 ⟨x, H1, I1, r1, q1⟩ => PyProof.Rows.args_nil ?_) na) na rfl
  obtain ⟨l, xs, rfl, hq, hn, q1⟩ := q1
  cases r1
  obtain ⟨its, r, pl, hz⟩ := I1.tuple hq
  have hl : its.toArray.size = xs.length := by
    rw [List.size_toArray, ← r.length, List.length_map]
  refine set_of_texts (I1.ok.hd hc) pl (by simpa using strsAre_of r) (by unfold scanBound; omega) ?_
  intro h2 tk hS hk
  refine PyProof.Rows.args_nil ?_
  rw [hl] at hS
  obtain ⟨o, es, ep, t, ho, hex, hd, _, _, _, hf, hsz⟩ := hS
  have I2 : Inv X pins σ H1 { s1 with heap := h2, toks := tk } :=
    I1.kept fun b o e => hk b o (Heap.lt_size e) e
  have mle := met_le xs xs.length
  exact call_len_set ho hex hd hf (by rw [hsz]; omega)
    ⟨.int (met xs xs.length : Nat), H1, I2.tok _, ⟨_, by rw [hsz]⟩, q1⟩
end
end Kv
namespace Kv
open PySem PySem.Spec PyProof.Rows L2
/-- a pot stands at p -/
def PotAt (H : Hp) (p : Addr) : Prop := ∃ r g : Int, H p = some (.lst [.int r, .int g]) ∧ 0 ≤ r ∧ 0 ≤ g ∧ g < 2147483647
/-- all but p is as it was -/
def But (p : Addr) (H H' : Hp) : Prop := ∀ b o, b ≠ p → H b = some o → H' b = some o
theorem But.refl {p : Addr} {H : Hp} : But p H H := fun _ _ _ h => h
theorem But.trans {p : Addr} {H H1 H2 : Hp} (a : But p H H1) (b : But p H1 H2) : But p H H2 :=
  fun c o n h => b c o n (a c o n h)
theorem But.of_same {p : Addr} {H H1 : Hp} (a : Same H H1) : But p H H1 := fun c o _ h => a c o h
theorem same_new {H : Hp} {p : Addr} {o : HO} (h : H p = none) : Same H (upd H p o) := by
  intro b x e
  rw [upd_ne (ne_of_none e h)]
  exact e
theorem PotAt.same {H H' : Hp} {p : Addr} (h : PotAt H p) (s : Same H H') : PotAt H' p := by
  obtain ⟨r, g, e, q⟩ := h
  exact ⟨r, g, s _ _ e, q⟩
theorem divp_small {i j : Int} (hj : 0 < j) (h : j.natAbs < 2 ^ 8000) : CDivP i j := by
  refine ⟨hj, ?_⟩
  have hl : j.natAbs.log2 < 8000 := (Nat.log2_lt (by omega)).mpr h
  show (decide ((if j == 0 then 0 else j.natAbs.log2 / 30 + 1) > 300) && decide (_ > _)) = false
  have z : ¬ ((if j == 0 then 0 else j.natAbs.log2 / 30 + 1) > 300) := by
    split <;> omega
  rw [decide_eq_false z, Bool.false_and]
theorem But.new {p q : Addr} {H H1 : Hp} {o : HO} (a : But p H H1) (n : H1 q = none) : But p H (upd H1 q o) :=
  fun c u nc h => same_new n c u (a c u nc h)
theorem same_new2 {H : Hp} {p : Addr} {o u : HO} (h : H p = none) : Same H (upd (upd H p o) p u) := by
  rw [upd_upd]
  exact same_new h
theorem num_sm {i : Int} (h0 : 0 ≤ i) (h : i.natAbs ≤ 10 ^ 60) : Sm 250 (Str.ofString (toString i)) := by
  obtain ⟨n, rfl⟩ := Int.eq_ofNat_of_zero_le h0
  refine ⟨?_, fun c hc => ?_⟩
  · have e := int_text_length_le (k := 200) (by decide) (log2_small h)
    rw [PySem.ofString_length]
    omega
  · have e : TL.tl (Str.ofString (toString ((n : Nat) : Int))) = TL.numL n := TL.tl_num n
    have hc2 : c ∈ TL.numL n := by
      rw [← e]
      exact hc
    unfold TL.numL at hc2
    obtain ⟨z, hz, rfl⟩ := List.mem_map.mp hc2
    have := Nat.isDigit_of_mem_toDigits (by decide) (by decide) hz
    simp only [Char.isDigit, Bool.and_eq_true, decide_eq_true_eq] at this
    have h2 : z.val.toNat ≤ 57 := this.2
    show z.val.toNat < 128
    omega
theorem But.same {p : Addr} {H0 H H' : Hp} (h : But p H H') (n : H0 p = none) (s : Same H0 H) : Same H0 H' :=
  fun b o e => h b o (ne_of_none e n) (s b o e)
theorem all_true (i : Nat) : (List.replicate i true).all id = true := by
  rw [List.all_eq_true]
  intro b hb
  exact (List.mem_replicate.mp hb).2
def az : List Nat := ("abcdefghijklmnopqrstuvwxyz" : Str).cps.toList
def inAz (c : Nat) : Bool := decide (c ∈ az)
/-- is it a name -/
def nameV : V → Bool
  | .str x => (decide (1 ≤ x.length) && decide (x.length ≤ 8)) && x.cps.toList.all inAz
  | _ => false
theorem nameV_not {v : V} (h : ∀ x, v ≠ .str x) : nameV v = false := by
  cases v with
  | str x => exact absurd rfl (h x)
  | _ => rfl
end Kv
/-! Rows of a hierarchy: names and superclasses. -/
namespace Kv
open PySem PySem.Spec PyProof.Rows L2
abbrev Row2 := Str × List Str
def fsts (rows : List Row2) : List Str := rows.map (·.1)
/-- each row is right behind the rows ahead of it -/
def Valid (rows : List Row2) : Prop := ∀ (i : Nat) (n : Str) (ss : List Str), rows[i]? = some (n, ss) →
  nameV (.str n) = true ∧ n ∉ fsts (rows.take i) ∧ ss.Nodup ∧ ∀ s ∈ ss, s ∈ fsts (rows.take i)
theorem valid_nil : Valid [] := fun i n ss h => by simp at h
theorem Valid.snoc {rows : List Row2} {n : Str} {ss : List Str} (v : Valid rows) (h1 : nameV (.str n) = true)
    (h2 : n ∉ fsts rows) (h3 : ss.Nodup) (h4 : ∀ s ∈ ss, s ∈ fsts rows) : Valid (rows ++ [(n, ss)]) := by
  intro i m ts h
  by_cases hi : i < rows.length
  · rw [List.getElem?_append_left hi] at h
    rw [List.take_append_of_le_length (by omega)]
    exact v i m ts h
  · have hi2 : i = rows.length := by
      have := (List.getElem?_eq_some_iff.mp h).1
      rw [List.length_append] at this
      have h1 : [(n, ss)].length = 1 := rfl
      omega
    subst hi2
    rw [List.getElem?_append_right (Nat.le_refl _), Nat.sub_self] at h
    cases h
    rw [List.take_append_of_le_length (Nat.le_refl _), List.take_length]
    exact ⟨h1, h2, h3, h4⟩
def RowAt (H : Hp) (v : V) (r : Row2) : Prop := ∃ t s, v = .ref t ∧ H t = some (.tup [.str r.1, .ref s]) ∧ H s = some (.tup (r.2.map V.str))
def RowsAre (H : Hp) : List V → List Row2 → Prop := Paired (RowAt H)
theorem RowAt.same {H H' : Hp} (s : Same H H') {v : V} {r : Row2} (h : RowAt H v r) : RowAt H' v r := by
  obtain ⟨t, u, e, h1, h2⟩ := h
  exact ⟨t, u, e, s _ _ h1, s _ _ h2⟩
theorem RowsAre.same {H H' : Hp} (s : Same H H') {vs : List V} {rows : List Row2} (h : RowsAre H vs rows) : RowsAre H' vs rows :=
  Paired.mapP h fun _ _ z => z.same s
/-- what is no list stays through a draw -/
theorem tup_but {H H' : Hp} {p t : Addr} {xs : List V} (hp : PotAt H p) (b : But p H H') (h : H t = some (.tup xs)) : H' t = some (.tup xs) := by
  obtain ⟨r, g, e, _⟩ := hp
  exact b _ _ (ne_of h e (by intro z; cases z)) h
theorem RowAt.but {H H' : Hp} {p : Addr} (hp : PotAt H p) (b : But p H H') {v : V} {r : Row2} (h : RowAt H v r) : RowAt H' v r := by
  obtain ⟨t, u, e, h1, h2⟩ := h
  exact ⟨t, u, e, tup_but hp b h1, tup_but hp b h2⟩
theorem RowsAre.but {H H' : Hp} {p : Addr} (hp : PotAt H p) (b : But p H H') {vs : List V} {rows : List Row2} (h : RowsAre H vs rows) : RowsAre H' vs rows :=
  Paired.mapP h fun _ _ z => z.but hp b
theorem RowsAre.length {H : Hp} {vs : List V} {rows : List Row2} (h : RowsAre H vs rows) : vs.length = rows.length := Paired.length h
theorem RowsAre.snoc {H : Hp} : ∀ {vs : List V} {rows : List Row2} {v : V} {r : Row2}, RowsAre H vs rows → RowAt H v r → RowsAre H (vs ++ [v]) (rows ++ [r])
  | _, _, _, _, .nil, h => .cons h .nil
  | _, _, _, _, .cons a b, h => .cons a (RowsAre.snoc b h)
theorem RowsAre.get {H : Hp} : ∀ {vs : List V} {rows : List Row2} {i : Nat} {v : V}, RowsAre H vs rows → vs[i]? = some v → ∃ r, rows[i]? = some r ∧ RowAt H v r
  | _, _, _, _, .nil, e => by simp at e
  | _, _, 0, _, .cons a _, e => by
    simp at e
    subst e
    exact ⟨_, rfl, a⟩
  | _, _, i + 1, v, .cons _ b, e => by
    obtain ⟨r, h1, h2⟩ := RowsAre.get (i := i) (v := v) b (by simpa using e)
    exact ⟨r, by simpa using h1, h2⟩
theorem RowAt.wr {H : Hp} {R : Addr} {xs : List V} {o : HO} (h : H R = some (.lst xs)) {v : V} {r : Row2} (a : RowAt H v r) : RowAt (upd H R o) v r := by
  obtain ⟨t, u, e, h1, h2⟩ := a
  exact ⟨t, u, e, by rw [upd_ne (ne_of h1 h (by intro z; cases z))]; exact h1, by rw [upd_ne (ne_of h2 h (by intro z; cases z))]; exact h2⟩
theorem RowsAre.wr {H : Hp} {R : Addr} {xs : List V} {o : HO} (h : H R = some (.lst xs)) {vs : List V} {rows : List Row2} (a : RowsAre H vs rows) : RowsAre (upd H R o) vs rows :=
  Paired.mapP a fun _ _ z => z.wr h
theorem fsts_snoc (rows : List Row2) (n : Str) (ss : List Str) : fsts (rows ++ [(n, ss)]) = fsts rows ++ [n] := by
  unfold fsts
  rw [List.map_append]
  rfl
/-! ### permuted texts -/
def unStr : V → Option Str
  | .str x => some x
  | _ => none
theorem unStr_map : ∀ ns : List Str, (ns.map V.str).filterMap unStr = ns
  | [] => rfl
  | n :: r => by
    show n :: (r.map V.str).filterMap unStr = n :: r
    rw [unStr_map r]
theorem map_unStr : ∀ ys : List V, (∀ y ∈ ys, ∃ x, y = .str x) → ys = (ys.filterMap unStr).map V.str
  | [], _ => rfl
  | y :: r, h => by
    obtain ⟨x, rfl⟩ := h y (List.mem_cons_self ..)
    have ih := map_unStr r fun z hz => h z (List.mem_cons_of_mem _ hz)
    show V.str x :: r = V.str x :: (r.filterMap unStr).map V.str
    rw [← ih]
theorem perm_strs {ys : List V} {ns : List Str} (h : ys.Perm (ns.map V.str)) : ∃ ms : List Str, ys = ms.map V.str ∧ ms.Perm ns := by
  refine ⟨ys.filterMap unStr, map_unStr ys fun y hy => ?_, ?_⟩
  · obtain ⟨x, _, e⟩ := List.mem_map.mp (h.mem_iff.mp hy)
    exact ⟨x, e.symm⟩
  · have := h.filterMap unStr
    rw [unStr_map] at this
    exact this
/-! ### letters that are left -/
theorem inV_strs (y : Str) : ∀ xs : List Str, inV (.str y) (xs.map V.str) = decide (y ∈ xs)
  | [] => rfl
  | x :: r => by
    have ih := inV_strs y r
    show (eqV (.str x) (.str y) || inV (.str y) (r.map V.str)) = _
    rw [ih]
    show ((x == y) || decide (y ∈ r)) = decide (y ∈ x :: r)
    by_cases e : x = y
    · subst e
      simp
    · have e2 : (x == y) = false := beq_eq_false_iff_ne.mpr e
      rw [e2, Bool.false_or]
      by_cases h : y ∈ r
      · rw [decide_eq_true h, decide_eq_true (List.mem_cons_of_mem _ h)]
      · rw [decide_eq_false h, decide_eq_false (fun z => by
          rcases List.mem_cons.mp z with z | z
          · exact e z.symm
          · exact h z)]
theorem flats : ∀ xs : List Str, (xs.map V.str).all flatV = true
  | [] => rfl
  | x :: r => by
    show (flatV (.str x) && (r.map V.str).all flatV) = true
    rw [flats r]
    rfl
theorem filter_one {α : Type} [DecidableEq α] (f : α) : ∀ {L : List α}, L.Nodup → L.length ≤ (L.filter fun y => decide (y ≠ f)).length + 1
  | [], _ => Nat.zero_le _
  | x :: r, h => by
    obtain ⟨h1, h2⟩ := List.nodup_cons.mp h
    by_cases e : x = f
    · subst e
      have e2 : r.filter (fun y => decide (y ≠ x)) = r := List.filter_eq_self.mpr fun y hy => decide_eq_true fun z => h1 (z ▸ hy)
      rw [List.filter_cons_of_neg (by simp), e2]
      exact Nat.le_refl _
    · have ih := filter_one f h2
      rw [List.filter_cons_of_pos (by simpa using e), List.length_cons, List.length_cons]
      omega
theorem filter_left {α : Type} [DecidableEq α] : ∀ (F : List α) {L : List α}, L.Nodup → L.length ≤ (L.filter fun y => decide (y ∉ F)).length + F.length
  | [], L, h => by
    have : L.filter (fun y => decide (y ∉ ([] : List α))) = L := List.filter_eq_self.mpr fun y _ => by simp
    rw [this]
    exact Nat.le_add_right _ _
  | f :: F, L, h => by
    have ih := filter_left F h
    have h2 : (L.filter fun y => decide (y ∉ F)).Nodup := h.filter _
    have h3 := filter_one f h2
    have e : (L.filter fun y => decide (y ∉ F)).filter (fun y => decide (y ≠ f)) = L.filter fun y => decide (y ∉ f :: F) := by
      rw [List.filter_filter]
      refine List.filter_congr fun y _ => ?_
      by_cases a : y = f <;> by_cases b : y ∈ F <;> simp [a, b]
    rw [e] at h3
    rw [List.length_cons]
    omega
def letters : List Str := az.map fun c => ⟨#[c]⟩
theorem letters_nodup : letters.Nodup := by decide +kernel
theorem letters_len : letters.length = 26 := by decide +kernel
theorem letter_name : ∀ y ∈ letters, nameV (.str y) = true := by decide +kernel
theorem cut_take {xs : List V} {k : Nat} : cutV xs none (some (k : Int)) = xs.take k := by
  unfold cutV
  rw [HT.sIx_none, HT.sIx_nat, Nat.sub_zero, List.drop_zero]
  by_cases h : k ≤ xs.length
  · rw [Nat.min_eq_left h]
  · rw [Nat.min_eq_right (by omega), List.take_length, List.take_of_length_le (by omega)]
end Kv
/-! for i, x in enumerate(t), t a tuple. -/
namespace Kv
open PySem PySem.Spec PyProof.Rows L2
open AutoSeq1 (wpAny_loadPart')
/-- a tuple's iterator, an enumerate over it -/
abbrev tupIt (t : Addr) : Obj := { cls := .type "tuple_iterator", data := .fields #[.ref t, .int 0 0] }
abbrev enumOf (it : Addr) : Obj := { cls := .type "enumerate", data := .fields #[.none, .bool false, .ref it, rawInt 0, .none, .none] }
set_option maxHeartbeats 1000000 in
theorem enum_new (t : Addr) (items : Array Value) (n : Nat) (dct : Option Addr) (sl : Array (Option Value)) :
    Meets (Builtin.«enumerate.__new__» ⟨[.type "enumerate", .ref t], []⟩) (fun _ R s =>
      s.heap.get? t = some { cls := .type "tuple", dict := dct, data := .seq items n, slots := sl } ∧
      R (.ok (.ret (.ref (s.heap.push (tupIt t)).objs.size)))
        { s with heap := (s.heap.push (tupIt t)).push (enumOf s.heap.objs.size) }) :=
  .of_wp fun prog w A R s h => by
    obtain ⟨hp, g, d, tk, os⟩ := s
    obtain ⟨hl, h⟩ := h
    have hsub := sub_enumerate
    have hT : Heap.IsTuple (Shared.heap ⟨hp, g, d, tk, os⟩) t items :=
      ⟨_, hl, rfl, n, rfl⟩
    wp_walk using wpAny_loadPart' hl
    refine wpAny_stack_any fun st =>
      wpAny_pure ?_
    split
    · rename_i c _ _ _ _ _
      cases (c == Value.type "enumerate") <;>
        (wp_walk using wpAny_loadPart' hl, wpAny_pyIter_tuple hT
         exact ⟨_, rfl, h⟩)
    · wp_walk using wpAny_loadPart' hl, wpAny_pyIter_tuple hT
      exact ⟨_, rfl, h⟩
section
variable {prog : Program} {w : World} {A : Around} {E : Value → Shared → Prop} {s : Shared}
theorem enum_call {t : Addr} {items : Array Value} {Q : Value → Shared → Prop} (hL : s.heap.IsTuple t items)
    (h : ∀ h2, IsEnum h2 (s.heap.objs.size + 1) s.heap.objs.size 0 .none → h2.IsTupleIter s.heap.objs.size t 0 →
      (∀ b o, s.heap.get? b = some o → h2.get? b = some o) →
      Q (.ref (s.heap.objs.size + 1)) { s with heap := h2 }) :
    wpAny (model prog w) A (call (.type "enumerate") [.ref t]) Q E s := by
  obtain ⟨⟨c, dct, dt, sl⟩, hl, hc, n, hd⟩ := hL
  obtain rfl : c = .type "tuple" := hc
  obtain rfl : dt = .seq items n := hd
  refine callType_new F.called_enumerate (by decide) (F.typeCall_enumerate_1 _) (F.newCall_enumerate_1 _)
    (fun obj => F.args_object_init_2 obj _) F.entry_enumerate_new (enum_new t items n dct sl) ⟨hl, ?_⟩
  have hz : (s.heap.push (tupIt t)).objs.size = s.heap.objs.size + 1 := Heap.size_push ..
  show _ ∧ _
  rw [hz]
  have he : IsEnum ((s.heap.push (tupIt t)).push (enumOf s.heap.objs.size)) (s.heap.objs.size + 1) s.heap.objs.size 0 .none := by
    have q := Heap.get?_push_size (s.heap.push (tupIt t)) (o := enumOf s.heap.objs.size) rfl
    rw [hz] at q
    exact q
  refine ⟨⟨_, he, rfl⟩, h _ he ?_ ?_⟩
  · exact ⟨_, Heap.get?_push_of_some _ (Heap.get?_push_size _ rfl), rfl, rfl⟩
  · intro b o x
    exact Heap.get?_push_of_some _ (Heap.get?_push_of_some _ x)
end
/-- the tuple at a as it stands, its items in new pairs -/
def Itet (K : PySem.W.Frag) (a : Addr) : It :=
  ⟨fun i H => ∃ (xs : List V) (x : V), SqT K H a xs ∧ xs[i]? = some x,
   fun i H v H' => ∃ T x, v = .ref T ∧ H T = none ∧ H' = upd H T (.tup [.int (i : Nat), x]) ∧
     ∀ xs, SqT K H a xs → xs[i]? = some x,
   fun i H => ∃ xs : List V, SqT K H a xs ∧ xs.length = i⟩
theorem turn_enumT {P : Program} {w : World} {K : PySem.W.Frag} {elts : List Expr} {kk : Nat} {tpos : Pos} (a e it : Addr) :
    Turn P w K (.Tuple elts kk tpos) (Itet K a) [e, it] e
      (fun i h => (∃ old, IsEnum h e it ((i : Nat) : Int) old) ∧ h.IsTupleIter it a i ∧ e ≠ it ∧ a ≠ it ∧ a ≠ e) where
  mem := by simp
  obj := by
    intro i h st b hb
    obtain ⟨⟨old, he⟩, ⟨o, ho, hc, hd⟩, _⟩ := st
    rcases List.mem_cons.mp hb with z | z
    · rw [z]
      exact ⟨_, he, fun v q => nomatch q⟩
    · rw [List.mem_singleton.mp z]
      exact ⟨o, ho, fun v q => by rw [hd] at q; cases q⟩
  keep := by
    intro i h h2 st k
    obtain ⟨⟨old, he⟩, hi, ne⟩ := st
    exact ⟨⟨old, k e (by simp) _ he⟩, hi.at fun o q => k it (by simp) o q, ne⟩
  item := by
    intro X hP hw hK hc i pins s σ H E I hf st hg
    subst hP hw hK
    obtain ⟨⟨old, he⟩, hit, hne, nai, nae⟩ := st
    obtain ⟨xs, x, hq, hx⟩ := hg
    obtain ⟨its, rv, p, hz⟩ := I.tuple hq
    obtain ⟨u, hu, ru⟩ := rv.get hx
    have lte : e < s.heap.objs.size := Heap.lt_size he
    have lti : it < s.heap.objs.size := by
      obtain ⟨_, q, _⟩ := hit
      exact Heap.lt_size q
    have hil : i < its.toArray.size := by
      rw [List.size_toArray]
      exact (List.getElem?_eq_some_iff.mp hu).1
    refine wpAny_pyNext_enum_itemD (Draws.tuple (A := X.A.in1) (I.ok.hd hc) it a nai its.toArray) he ⟨hit, p⟩ hil hne ?_ ?_
    · intro z
      rcases List.mem_cons.mp z with y | y
      · exact hne y
      · exact nae (List.mem_singleton.mp y).symm
    intro y h2 tk hy ho hit2 hT hsz hk
    obtain rfl : y = u := by
      have hy2 : its.toArray[i]? = some y := hy
      have hu2 : its.toArray[i]? = some u := by simpa using hu
      rw [hu2] at hy2
      exact (Option.some.inj hy2).symm
    refine ⟨_, rfl, wpAny_letOwnedTupleGo_enum (s := { s with heap := h2, toks := tk + 1 }) ho ?_⟩
    intro h3 he3 sb
    have hT3 : h3.get? s.heap.objs.size = some { cls := .type "tuple", data := .seq #[.int i tk, y] } :=
      (sb.2 _ (Nat.ne_of_gt lte)).trans hT
    have new : ObjOk X.prog X.w (upd H s.heap.objs.size (.tup [.int (i : Nat), x])) h3 s.heap.objs.size (.tup [.int (i : Nat), x]) := by
      refine ⟨(by decide : 2 ≤ sizeLine), [.int i tk, y], .cons ⟨_, rfl⟩ (.cons ru .nil), ?_⟩
      exact ⟨_, hT3, rfl, _, rfl⟩
    have I1 : Inv X pins σ (upd H s.heap.objs.size (.tup [.int (i : Nat), x])) { s with heap := h3, toks := tk + 1 } := by
      refine I.turnedNew (ch := [e, it]) ?_ hf (Nat.le_refl _) new
      intro b ob hb q
      have nb1 : b ≠ e := fun z => hb (by simp [z])
      have nb2 : b ≠ it := fun z => hb (by simp [z])
      exact (sb.2 b nb1).trans (hk b ob nb1 nb2 q)
    refine ⟨.ref s.heap.objs.size, _, I1, rfl, ⟨_, x, rfl, I.hok.fresh (Nat.le_refl _), rfl, ?_⟩, ⟨⟨y, ?_⟩, ?_, hne, nai, nae⟩, ?_⟩
    · intro ys hys
      rw [I.tuple_inj hys hq]
      exact hx
    · have e1 : ((i + 1 : Nat) : Int) = (i : Int) + 1 := by omega
      rw [e1]
      exact he3
    · exact hit2.1.at fun o q => (sb.2 it (Ne.symm hne)).trans q
    · intro b hb
      have lb : b < s.heap.objs.size := by
        rcases List.mem_cons.mp hb with z | z
        · rw [z]
          exact lte
        · rw [List.mem_singleton.mp z]
          exact lti
      rw [upd_ne (Nat.ne_of_lt lb)]
      exact (hf b hb).1
  done := by
    intro X hP hw hK hc i pins s σ H E I hf st hg
    subst hP hw hK
    obtain ⟨⟨old, he⟩, hit, hne, nai, nae⟩ := st
    obtain ⟨xs, hq, hx⟩ := hg
    obtain ⟨its, rv, p, hz⟩ := I.tuple hq
    obtain ⟨f0, f1, f2, f3, f4, f5⟩ := hf it (by simp)
    have hl := rv.length
    have ei : its.toArray.size = i := by
      rw [List.size_toArray, ← hl]
      exact hx
    refine wpAny_pyNext_enum_endD (Draws.tuple (A := X.A.in1) (I.ok.hd hc) it a nai its.toArray) he ⟨?_, p⟩ ?_
    · rw [ei]
      exact hit
    · intro h2 eb
      exact ⟨rfl, I.turned (t' := s.toks) (fun b o hb q => eb b o hb q) f0 f1 f3 f4 f5⟩
  self := by
    intro A i s Q E st h
    obtain ⟨⟨_, he⟩, _⟩ := st
    exact wpAny_pyIter_enum he h
/-- enumerate of a list or of a tuple -/
def iEnumS (K : PySem.W.Frag) (ta : TA) : TI := fun σ H R => ta σ H fun vs H1 =>
  (∃ a xs, vs = [.ref a] ∧ SqL K H1 a xs ∧ R (Ite K a) H1) ∨ ∃ a xs, vs = [.ref a] ∧ SqT K H1 a xs ∧ R (Itet K a) H1
theorem pi_enumS {X : Cx} {e : Expr} {ta : TA} {p pos tpos : Pos} {elts : List Expr} {kk : Nat} (hg : Gl X "enumerate")
    (hm : X.mg "enumerate" = none) (ha : PA X [e] ta) (hs : starEach [e] X.env = [(false, eval e X.env)] := by rfl) :
    PI X (.Tuple elts kk tpos) (.Call (.Name "enumerate" p) [e] [] pos) (iEnumS X.K ta) := by
  constructor
  intro pins s σ H R I h
  refine Call_ (ld_blt I hg hm boot_enumerate (PyProof.Rows.callWith_type1
    (thn (ha.run pos pins s σ H _ I h) fun us s1 ⟨vs, H1, I1, r1, q1⟩ => ?_) hs rfl))
  have fresh : ∀ b ∈ [s1.heap.objs.size + 1, s1.heap.objs.size], FpOk X pins H1 b := by
    intro b hb
    have le : s1.heap.objs.size ≤ b := by
      rcases List.mem_cons.mp hb with z | z
      · rw [z]
        exact Nat.le_succ _
      · rw [List.mem_singleton.mp z]
        exact Nat.le_refl _
    exact I1.fpOk le (I1.hok.fresh le)
  rcases q1 with ⟨a, xs, rfl, hq, q⟩ | ⟨a, xs, rfl, hq, q⟩
  · cases r1 with
    | cons r rr =>
      cases rr
      cases r
      obtain ⟨its, rv, pl, hz⟩ := I1.list hq
      refine call_enumerate_list pl.isList fun h2 he hit hsz hk => wpAny_pyIter_enum he ?_
      exact ⟨s1.heap.objs.size + 1, [s1.heap.objs.size + 1, s1.heap.objs.size], _, _, H1, rfl, I1.kept (t' := s1.toks) hk,
        turn_enum a (s1.heap.objs.size + 1) s1.heap.objs.size, ⟨⟨.none, he⟩, hit, Nat.succ_ne_self _⟩, fresh, q⟩
  · cases r1 with
    | cons r rr =>
      cases rr
      cases r
      obtain ⟨its, rv, pl, hz⟩ := I1.tuple hq
      have lta : a < s1.heap.objs.size := by
        obtain ⟨o, ho, _⟩ := pl
        exact Heap.lt_size ho
      refine enum_call pl fun h2 he hit hk => wpAny_pyIter_enum he ?_
      exact ⟨s1.heap.objs.size + 1, [s1.heap.objs.size + 1, s1.heap.objs.size], _, _, H1, rfl, I1.kept (t' := s1.toks) hk,
        turn_enumT a (s1.heap.objs.size + 1) s1.heap.objs.size,
        ⟨⟨.none, he⟩, hit, Nat.succ_ne_self _, Nat.ne_of_lt lta, Nat.ne_of_lt (Nat.lt_succ_of_lt lta)⟩, fresh, q⟩
end Kv
/-! The classes above a class, as a hierarchy keeps them. -/
namespace Kv
open PySem PySem.Spec PyProof.Rows L2
/-- a dict of texts, each with True -/
def flag (as : List Str) : List (Key × V) := as.map fun a => (Sum.inr a, V.bl true)
def addA (acc : List Str) (a : Str) : List Str := if a ∈ acc then acc else acc ++ [a]
def addAll (acc as : List Str) : List Str := as.foldl addA acc
abbrev Tab := List (Str × List Str)
def look (tab : Tab) (x : Str) : List Str := (tab.lookup x).getD []
def ancOf (tab : Tab) (n : Str) (ss : List Str) : List Str := ss.foldl (fun acc s => addAll acc (look tab s)) [n]
def tabKeys (tab : Tab) : List Str := tab.map (·.1)
def ancTab (rows : List Row2) : Tab := rows.foldl (fun tab r => tab ++ [(r.1, ancOf tab r.1 r.2)]) []
theorem keyr_ne {a b : Str} (h : a ≠ b) : ¬ ((Sum.inr a : Key) = Sum.inr b) := fun z => h (Sum.inr.inj z)
theorem valV_flag (a : Str) : ∀ as : List Str, valV (flag as) (Sum.inr a : Key) = if a ∈ as then some (.bl true) else none
  | [] => rfl
  | x :: r => by
    have ih := valV_flag a r
    show valV (((Sum.inr x : Key), V.bl true) :: flag r) _ = _
    by_cases e : x = a
    · subst e
      rw [valV_pos rfl, if_pos (List.mem_cons_self ..)]
    · rw [valV_neg (keyr_ne e), ih]
      by_cases h : a ∈ r
      · rw [if_pos h, if_pos (List.mem_cons_of_mem _ h)]
      · rw [if_neg h, if_neg (fun z => by
          rcases List.mem_cons.mp z with z | z
          · exact e z.symm
          · exact h z)]
theorem flag_map (a : Str) : ∀ as : List Str, (flag as).map (fun kv => if kv.1 = (Sum.inr a : Key) then (kv.1, V.bl true) else kv) = flag as
  | [] => rfl
  | x :: r => by
    show (if (Sum.inr x : Key) = Sum.inr a then ((Sum.inr x : Key), V.bl true) else ((Sum.inr x : Key), V.bl true)) :: (flag r).map _ = ((Sum.inr x : Key), V.bl true) :: flag r
    rw [flag_map a r]
    split <;> rfl
theorem put_flag (acc : List Str) (a : Str) : putK (flag acc) (Sum.inr a : Key) (.bl true) = flag (addA acc a) := by
  unfold putK addA
  rw [valV_any, valV_flag]
  by_cases h : a ∈ acc
  · rw [if_pos h, if_pos h]
    rw [if_pos (by rfl : (some (V.bl true)).isSome = true)]
    exact flag_map a acc
  · rw [if_neg h, if_neg h]
    show (if (none : Option V).isSome = true then _ else _) = _
    rw [if_neg (by simp)]
    unfold flag
    rw [List.map_append]
    rfl
theorem flag_len (as : List Str) : (flag as).length = as.length := List.length_map _
theorem addA_nodup {acc : List Str} {a : Str} (h : acc.Nodup) : (addA acc a).Nodup := by
  unfold addA
  split
  · exact h
  · rename_i hn
    rw [List.nodup_append]
    refine ⟨h, List.pairwise_singleton _ _, fun x hx y hy => ?_⟩
    rw [List.mem_singleton.mp hy]
    rintro rfl
    exact hn hx
theorem mem_addA {acc : List Str} {a x : Str} : x ∈ addA acc a ↔ x ∈ acc ∨ x = a := by
  unfold addA
  split
  · rename_i h
    constructor
    · exact Or.inl
    · rintro (z | rfl)
      · exact z
      · exact h
  · rw [List.mem_append, List.mem_singleton]
theorem addAll_snoc (acc as : List Str) (a : Str) : addAll acc (as ++ [a]) = addA (addAll acc as) a := by
  unfold addAll
  rw [List.foldl_append]
  rfl
theorem addAll_take {as : List Str} {i : Nat} {a : Str} (acc : List Str) (h : as[i]? = some a) : addAll acc (as.take (i + 1)) = addA (addAll acc (as.take i)) a := by
  rw [List.take_add_one, h]
  exact addAll_snoc ..
theorem addAll_nodup : ∀ {as acc : List Str}, acc.Nodup → (addAll acc as).Nodup
  | [], _, h => h
  | a :: r, acc, h => addAll_nodup (as := r) (addA_nodup h)
theorem mem_addAll {x : Str} : ∀ {as acc : List Str}, x ∈ addAll acc as ↔ x ∈ acc ∨ x ∈ as
  | [], acc => by
    show x ∈ acc ↔ _
    simp
  | a :: r, acc => by
    show x ∈ addAll (addA acc a) r ↔ _
    rw [mem_addAll, mem_addA, List.mem_cons]
    constructor
    · rintro ((z | z) | z)
      · exact Or.inl z
      · exact Or.inr (Or.inl z)
      · exact Or.inr (Or.inr z)
    · rintro (z | z | z)
      · exact Or.inl (Or.inl z)
      · exact Or.inl (Or.inr z)
      · exact Or.inr z
/-- the classes found behind i superclasses -/
def ancAt (tab : Tab) (n : Str) (ss : List Str) (i : Nat) : List Str := ancOf tab n (ss.take i)
theorem ancAt_next {tab : Tab} {n : Str} {ss : List Str} {i : Nat} {s : Str} (h : ss[i]? = some s) : ancAt tab n ss (i + 1) = addAll (ancAt tab n ss i) (look tab s) := by
  unfold ancAt ancOf
  rw [List.take_add_one, h, List.foldl_append]
  rfl
theorem ancOf_nodup {tab : Tab} {n : Str} {ss : List Str} : (ancOf tab n ss).Nodup := by
  unfold ancOf
  have : ∀ (l acc : List Str), acc.Nodup → (l.foldl (fun acc s => addAll acc (look tab s)) acc).Nodup := by
    intro l
    induction l with
    | nil => intro acc h; exact h
    | cons a r ih => intro acc h; exact ih _ (addAll_nodup h)
  exact this ss [n] (List.pairwise_singleton _ _)
theorem mem_ancOf {tab : Tab} {n x : Str} {ss : List Str} : x ∈ ancOf tab n ss ↔ x = n ∨ ∃ s ∈ ss, x ∈ look tab s := by
  have : ∀ (l acc : List Str), x ∈ l.foldl (fun acc s => addAll acc (look tab s)) acc ↔ x ∈ acc ∨ ∃ s ∈ l, x ∈ look tab s := by
    intro l
    induction l with
    | nil => intro acc; simp
    | cons a r ih =>
      intro acc
      show x ∈ r.foldl _ (addAll acc (look tab a)) ↔ _
      rw [ih, mem_addAll]
      constructor
      · rintro ((z | z) | ⟨s, hs, z⟩)
        · exact Or.inl z
        · exact Or.inr ⟨a, List.mem_cons_self .., z⟩
        · exact Or.inr ⟨s, List.mem_cons_of_mem _ hs, z⟩
      · rintro (z | ⟨s, hs, z⟩)
        · exact Or.inl (Or.inl z)
        · rcases List.mem_cons.mp hs with rfl | hs
          · exact Or.inl (Or.inr z)
          · exact Or.inr ⟨s, hs, z⟩
  unfold ancOf
  rw [this, List.mem_singleton]
/-- each entry holds known classes -/
def TabOk (tab : Tab) : Prop := ∀ (x : Str) (as : List Str), (x, as) ∈ tab → as.Nodup ∧ ∀ a ∈ as, a ∈ tabKeys tab
theorem mem_look {tab : Tab} : ∀ {x : Str}, x ∈ tabKeys tab → (x, look tab x) ∈ tab := by
  induction tab with
  | nil => intro x h; cases h
  | cons p r ih =>
    intro x h
    obtain ⟨y, as⟩ := p
    unfold look
    rw [List.lookup_cons]
    by_cases e : x = y
    · subst e
      rw [beq_self_eq_true]
      exact List.mem_cons_self ..
    · rw [beq_eq_false_iff_ne.mpr e]
      refine List.mem_cons_of_mem _ (ih ?_)
      rcases List.mem_cons.mp h with z | z
      · exact absurd z e
      · exact z
theorem look_none {tab : Tab} : ∀ {x : Str}, x ∉ tabKeys tab → look tab x = [] := by
  induction tab with
  | nil => intro x _; rfl
  | cons p r ih =>
    intro x h
    obtain ⟨y, as⟩ := p
    have h1 : x ≠ y := fun z => h (z ▸ List.mem_cons_self ..)
    have h2 := ih (x := x) fun z => h (List.mem_cons_of_mem _ z)
    unfold look at h2 ⊢
    rw [List.lookup_cons, beq_eq_false_iff_ne.mpr h1]
    exact h2
theorem look_sub {tab : Tab} (ok : TabOk tab) {x a : Str} (h : a ∈ look tab x) : a ∈ tabKeys tab := by
  by_cases hx : x ∈ tabKeys tab
  · exact (ok _ _ (mem_look hx)).2 a h
  · rw [look_none hx] at h
    cases h
theorem nodup_le {L F : List Str} (h : L.Nodup) (s : ∀ x ∈ L, x ∈ F) : L.length ≤ F.length := by
  have := filter_left F h
  have e : L.filter (fun y => decide (y ∉ F)) = [] := List.filter_eq_nil_iff.mpr fun y hy => by simpa using s y hy
  rw [e] at this
  have z : ([] : List Str).length = 0 := rfl
  omega
theorem TabOk.snoc {tab : Tab} (ok : TabOk tab) (n : Str) (ss : List Str) : TabOk (tab ++ [(n, ancOf tab n ss)]) := by
  intro x as h
  have ek : tabKeys (tab ++ [(n, ancOf tab n ss)]) = tabKeys tab ++ [n] := by
    unfold tabKeys
    rw [List.map_append]
    rfl
  rw [ek]
  rcases List.mem_append.mp h with z | z
  · obtain ⟨h1, h2⟩ := ok x as z
    exact ⟨h1, fun a ha => List.mem_append_left _ (h2 a ha)⟩
  · have := List.mem_singleton.mp z
    cases this
    refine ⟨ancOf_nodup, fun a ha => ?_⟩
    rcases mem_ancOf.mp ha with rfl | ⟨s, _, hs⟩
    · exact List.mem_append_right _ (List.mem_singleton.mpr rfl)
    · exact List.mem_append_left _ (look_sub ok hs)
theorem tabOk_nil : TabOk [] := fun x as h => by cases h
theorem ancTab_snoc (rows : List Row2) (r : Row2) : ancTab (rows ++ [r]) = ancTab rows ++ [(r.1, ancOf (ancTab rows) r.1 r.2)] := by
  unfold ancTab
  rw [List.foldl_append]
  rfl
theorem ancTab_take {rows : List Row2} {i : Nat} {r : Row2} (h : rows[i]? = some r) : ancTab (rows.take (i + 1)) = ancTab (rows.take i) ++ [(r.1, ancOf (ancTab (rows.take i)) r.1 r.2)] := by
  rw [List.take_add_one, h]
  exact ancTab_snoc ..
theorem ancTab_ok (rows : List Row2) : ∀ i, TabOk (ancTab (rows.take i))
  | 0 => tabOk_nil
  | i + 1 => by
    cases h : rows[i]? with
    | none =>
      rw [List.take_add_one, h]
      show TabOk (ancTab (rows.take i ++ []))
      rw [List.append_nil]
      exact ancTab_ok rows i
    | some r =>
      rw [ancTab_take h]
      exact (ancTab_ok rows i).snoc _ _
theorem ancTab_keys (rows : List Row2) : tabKeys (ancTab rows) = fsts rows := by
  have : ∀ (l : List Row2) (tab : Tab), tabKeys (l.foldl (fun tab r => tab ++ [(r.1, ancOf tab r.1 r.2)]) tab) = tabKeys tab ++ fsts l := by
    intro l
    induction l with
    | nil =>
      intro tab
      show tabKeys tab = tabKeys tab ++ []
      rw [List.append_nil]
    | cons r l ih =>
      intro tab
      show tabKeys (l.foldl _ (tab ++ [(r.1, ancOf tab r.1 r.2)])) = _
      rw [ih]
      unfold tabKeys fsts
      rw [List.map_append, List.append_assoc]
      rfl
  exact this rows []
/-! ### in the heap -/
def EntryAt (H : Hp) (kv : Key × V) (na : Str × List Str) : Prop := kv.1 = Sum.inr na.1 ∧ ∃ d, kv.2 = .ref d ∧ H d = some (.dK (flag na.2))
def Entries (H : Hp) : List (Key × V) → Tab → Prop := Paired (EntryAt H)
theorem Entries.mono {H H' : Hp} {kvs : List (Key × V)} {tab : Tab} (h : Entries H kvs tab) (k : ∀ d as, H d = some (.dK (flag as)) → H' d = some (.dK (flag as))) : Entries H' kvs tab :=
  Paired.mapP h fun _ _ ⟨e1, d, e2, e3⟩ => ⟨e1, d, e2, k d _ e3⟩
theorem Entries.look {H : Hp} : ∀ {kvs : List (Key × V)} {tab : Tab} {x : Str}, Entries H kvs tab → x ∈ tabKeys tab → ∃ d, valV kvs (Sum.inr x : Key) = some (.ref d) ∧ H d = some (.dK (flag (look tab x)))
  | _, _, _, .nil, h => by cases h
  | p :: _, (y, as) :: r, x, .cons ⟨e1, d, e2, e3⟩ t, h => by
    by_cases e : x = y
    · subst e
      refine ⟨d, ?_, ?_⟩
      · rw [valV_pos e1, e2]
      · unfold Kv.look
        rw [List.lookup_cons, beq_self_eq_true]
        exact e3
    · have hx : x ∈ tabKeys r := by
        rcases List.mem_cons.mp h with z | z
        · exact absurd z e
        · exact z
      obtain ⟨d2, g1, g2⟩ := Entries.look t hx
      refine ⟨d2, ?_, ?_⟩
      · rw [valV_neg (fun z => e (Sum.inr.inj (e1.symm.trans z)).symm)]
        exact g1
      · unfold Kv.look at g2 ⊢
        rw [List.lookup_cons, beq_eq_false_iff_ne.mpr e]
        exact g2
theorem Entries.none {H : Hp} : ∀ {kvs : List (Key × V)} {tab : Tab} {x : Str}, Entries H kvs tab → x ∉ tabKeys tab → valV kvs (Sum.inr x : Key) = none
  | _, _, _, .nil, _ => rfl
  | p :: _, (y, as) :: r, x, .cons ⟨e1, d, e2, e3⟩ t, h => by
    rw [valV_neg (fun z => h (by
      have : y = x := Sum.inr.inj (e1.symm.trans z)
      rw [this]
      exact List.mem_cons_self ..))]
    exact Entries.none t fun z => h (List.mem_cons_of_mem _ z)
theorem Entries.snoc {H : Hp} : ∀ {kvs : List (Key × V)} {tab : Tab} {kv : Key × V} {na : Str × List Str}, Entries H kvs tab → EntryAt H kv na → Entries H (kvs ++ [kv]) (tab ++ [na])
  | _, _, _, _, .nil, h => .cons h .nil
  | _, _, _, _, .cons a b, h => .cons a (Entries.snoc b h)
theorem Entries.length {H : Hp} {kvs : List (Key × V)} {tab : Tab} (h : Entries H kvs tab) : kvs.length = tab.length := Paired.length h
/-- the places -/
def placeKV (ns : List Str) : List (Key × V) := ns.zipIdx.map fun p => (Sum.inr p.1, V.int p.2)
theorem place_len (ns : List Str) : (placeKV ns).length = ns.length := by
  unfold placeKV
  rw [List.length_map, List.length_zipIdx]
theorem place_snoc (ns : List Str) (n : Str) : placeKV (ns ++ [n]) = placeKV ns ++ [(Sum.inr n, .int ns.length)] := by
  unfold placeKV
  rw [List.zipIdx_append, List.map_append]
  simp
theorem place_val (x : Str) : ∀ (ns : List Str), (valV (placeKV ns) (Sum.inr x : Key)).isSome = decide (x ∈ ns) := by
  intro ns
  unfold placeKV
  have : ∀ (l : List Str) (k : Nat), (valV ((l.zipIdx k).map fun p => ((Sum.inr p.1 : Key), V.int p.2)) (Sum.inr x : Key)).isSome = decide (x ∈ l) := by
    intro l
    induction l with
    | nil => intro k; rfl
    | cons y r ih =>
      intro k
      rw [List.zipIdx_cons, List.map_cons]
      by_cases e : y = x
      · subst e
        rw [valV_pos rfl, decide_eq_true (List.mem_cons_self ..)]
        rfl
      · rw [valV_neg (keyr_ne e), ih]
        by_cases h : x ∈ r
        · rw [decide_eq_true h, decide_eq_true (List.mem_cons_of_mem _ h)]
        · rw [decide_eq_false h, decide_eq_false (fun z => by
            rcases List.mem_cons.mp z with z | z
            · exact e z.symm
            · exact h z)]
  exact this ns 0
end Kv
/-! A hierarchy as an object. -/
namespace Kv
open PySem PySem.Spec PyProof.Rows L2
def flds (r q u : Addr) : List (Str × V) := putF "above" (.ref u) (putF "places" (.ref q) (putF "rows" (.ref r) []))
theorem f1 : ¬ (("rows" : Str) = "above") := by decide +kernel
theorem f2 : ¬ (("rows" : Str) = "places") := by decide +kernel
theorem f3 : ¬ (("places" : Str) = "above") := by decide +kernel
theorem flds_rows (r q u : Addr) : (flds r q u).lookup ("rows" : Str) = some (.ref r) := by
  unfold flds
  rw [lookup_putF, if_neg f1, lookup_putF, if_neg f2, lookup_putF, if_pos rfl]
theorem flds_places (r q u : Addr) : (flds r q u).lookup ("places" : Str) = some (.ref q) := by
  unfold flds
  rw [lookup_putF, if_neg f3, lookup_putF, if_pos rfl]
theorem flds_above (r q u : Addr) : (flds r q u).lookup ("above" : Str) = some (.ref u) := by
  unfold flds
  rw [lookup_putF, if_pos rfl]
theorem flds_no (r q u : Addr) {m : Str} (h1 : ¬ m = "above") (h2 : ¬ m = "places") (h3 : ¬ m = "rows") : (flds r q u).lookup m = none := by
  unfold flds
  rw [lookup_putF, if_neg h1, lookup_putF, if_neg h2, lookup_putF, if_neg h3]
  rfl
theorem two_flds (r q : Addr) : (putF "places" (V.ref q) (putF "rows" (V.ref r) [])).length < 1000 := by
  show (if ("rows" : Str) = "places" then [(("rows" : Str), V.ref q)] else (("rows" : Str), V.ref r) :: putF "places" (V.ref q) []).length < 1000
  rw [if_neg f2]
  show 2 < 1000
  decide
/-- the hierarchy of these rows stands at x -/
structure HierAt (C : Addr) (H : Hp) (x : Addr) (rows : List Row2) : Prop where
  ex : ∃ (dx r q u : Addr) (rvs : List V) (kvs : List (Key × V)), H x = some (.ins C dx (flds r q u)) ∧ H r = some (.lst rvs) ∧ RowsAre H rvs rows ∧
    H q = some (.dK (placeKV (fsts rows))) ∧ H u = some (.dK kvs) ∧ Entries H kvs (ancTab rows)
theorem HierAt.same {C : Addr} {H H' : Hp} {x : Addr} {rows : List Row2} (h : HierAt C H x rows) (s : Same H H') : HierAt C H' x rows := by
  obtain ⟨dx, r, q, u, rvs, kvs, h1, h2, h3, h4, h5, h6⟩ := h.ex
  exact ⟨dx, r, q, u, rvs, kvs, s _ _ h1, s _ _ h2, h3.same s, s _ _ h4, s _ _ h5, h6.mono fun d as e => s _ _ e⟩
theorem RowAt.wrX {H : Hp} {R : Addr} {o0 o : HO} (h : H R = some o0) (hn : ∀ xs, HO.tup xs ≠ o0) {v : V} {r : Row2} (a : RowAt H v r) : RowAt (upd H R o) v r := by
  obtain ⟨t, u, e, h1, h2⟩ := a
  exact ⟨t, u, e, by rw [upd_ne (ne_of h1 h (hn _))]; exact h1, by rw [upd_ne (ne_of h2 h (hn _))]; exact h2⟩
theorem RowsAre.wrX {H : Hp} {R : Addr} {o0 o : HO} (h : H R = some o0) (hn : ∀ xs, HO.tup xs ≠ o0) {vs : List V} {rows : List Row2} (a : RowsAre H vs rows) : RowsAre (upd H R o) vs rows :=
  Paired.mapP a fun _ _ z => z.wrX h hn
theorem RowAt.butX {H H' : Hp} {x : Addr} {o0 : HO} (h : H x = some o0) (hn : ∀ xs, HO.tup xs ≠ o0) (b : But x H H') {v : V} {r : Row2} (a : RowAt H v r) : RowAt H' v r := by
  obtain ⟨t, u, e, h1, h2⟩ := a
  exact ⟨t, u, e, b _ _ (ne_of h1 h (hn _)) h1, b _ _ (ne_of h2 h (hn _)) h2⟩
theorem Entries.wr {H : Hp} {R : Addr} {o : HO} : ∀ {kvs : List (Key × V)} {tab : Tab}, Entries H kvs tab → (∀ kv ∈ kvs, kv.2 ≠ .ref R) → Entries (upd H R o) kvs tab
  | _, _, .nil, _ => .nil
  | p :: r, _, .cons ⟨e1, d, e2, e3⟩ t, h => by
    have hd : d ≠ R := fun z => h p (List.mem_cons_self ..) (by rw [e2, z])
    exact .cons ⟨e1, d, e2, by rw [upd_ne hd]; exact e3⟩ (Entries.wr t fun kv hk => h kv (List.mem_cons_of_mem _ hk))
theorem tyL {K : PySem.W.Frag} {H : Hp} {a : Addr} {xs : List V} (h : SqL K H a xs) : TyX K H (.ref a) (.type "list") := by
  rcases h with (h | ⟨o, h⟩) | ⟨o, its, n, hk, hc, _⟩
  · exact .base (.lst h)
  · exact .base (.frz h)
  · exact .kList hk hc
theorem tyT {K : PySem.W.Frag} {H : Hp} {a : Addr} {xs : List V} (h : SqT K H a xs) : TyX K H (.ref a) (.type "tuple") := by
  rcases h with (h | ⟨o, h⟩) | ⟨o, its, n, hk, hc, _⟩
  · exact .base (.tup h)
  · exact .fTuple h
  · exact .kTuple hk hc
theorem sqL_but {K : PySem.W.Frag} {H H' : Hp} {x c : Addr} {us : List V} {C dx : Addr} {fs : List (Str × V)} (h : SqL K H c us) (hx : H x = some (.ins C dx fs)) (b : But x H H') : SqL K H' c us := by
  rcases h with (h | ⟨o, h⟩) | h
  · exact .inl (.inl (b _ _ (ne_of h hx (by intro z; cases z)) h))
  · exact .inl (.inr ⟨o, b _ _ (ne_of h hx (by intro z; cases z)) h⟩)
  · exact .inr h
theorem sqT_but {K : PySem.W.Frag} {H H' : Hp} {x c : Addr} {us : List V} {C dx : Addr} {fs : List (Str × V)} (h : SqT K H c us) (hx : H x = some (.ins C dx fs)) (b : But x H H') : SqT K H' c us := by
  rcases h with (h | ⟨o, h⟩) | h
  · exact .inl (.inl (b _ _ (ne_of h hx (by intro z; cases z)) h))
  · exact .inl (.inr ⟨o, b _ _ (ne_of h hx (by intro z; cases z)) h⟩)
  · exact .inr h
theorem sqT_same {K : PySem.W.Frag} {H H' : Hp} {c : Addr} {us : List V} (h : SqT K H c us) (s : Same H H') : SqT K H' c us := by
  rcases h with (h | ⟨o, h⟩) | h
  · exact .inl (.inl (s _ _ h))
  · exact .inl (.inr ⟨o, s _ _ h⟩)
  · exact .inr h
/-- enumerate over a tuple, as a walk -/
theorem walk_enumT {K : PySem.W.Frag} {a : Addr} {xs : List V} : Walk (Itet K a) xs.length (fun H => SqT K H a xs) (YPair (fun i => some (.int (i : Nat))) (fun i => xs[i]?)) := by
  refine ⟨fun i H hi q => ⟨xs, xs[i], q, by simp [hi]⟩, fun H q => ⟨xs, q, rfl⟩, fun i H v H2 hi q y => ?_⟩
  obtain ⟨T, x, e1, e2, e3, e4⟩ := y
  exact ⟨T, .int (i : Nat), x, e1, e2, e3, rfl, e4 xs q⟩
/-- what the walk asks of the class Hierarchy -/
structure HTxt (K : PySem.W.Frag) (mg : Str → Option Value) (C : Addr) : Prop where
  cl : Cls K C
  nR : NoAttr K C "rows"
  nP : NoAttr K C "places"
  nA : NoAttr K C "above"
  mgC : mg "Hierarchy" = some (.ref C)
  lim : ∃ mc u, ClX.CRead K C mc ∧ ClX.CVal K C mc "LIMIT" (.int 20) u
end Kv
/-! New lists do not lie where sys.modules lies. -/
namespace Kv
open PySem PySem.Spec PyProof.Rows L2
section
variable {X : Cx} {es : List Expr} {t : TA} {pos : Pos}
theorem new_low {pins : List (Addr × Obj)} {σ : L2.St} {H : Hp} {s : Shared} (low : sysModules < X.base.objs.size) (I : Inv X pins σ H s) : s.heap.objs.size ≠ sysModules := by
  have := I.ok.bsz
  have := I.sz
  intro z
  rw [z] at this
  exact absurd (Nat.lt_of_lt_of_le low (Nat.le_trans ‹X.base.objs.size ≤ _› this)) (Nat.lt_irrefl _)
/-- a list of written items, its place told apart -/
def tLstN (t : TA) : TE := fun σ H Q => t σ H fun xs H1 => xs.length ≤ sizeLine ∧ ∀ p, H1 p = none → p ≠ sysModules → Q (.ref p) (upd H1 p (.lst xs))
theorem pe_lstN (low : sysModules < X.base.objs.size) (h : PA X es t) : PE X (.List es pos) (tLstN t) := by
  constructor
  intro pins s σ H Q I hq
  refine wpAny_List_spliced (thn (h.run pos pins s σ H _ I hq) ?_)
  rintro us s1 ⟨xs, H1, I1, r, z, q⟩
  refine ⟨by rw [← r.length]; exact z, ?_⟩
  have hf : H1 s1.heap.objs.size = none := I1.hok.fresh (Nat.le_refl _)
  have ok : ObjOk X.prog X.w (upd H1 s1.heap.objs.size (.lst xs)) (s1.heap.push { cls := .type "list", data := .seq us.toArray }) s1.heap.objs.size (.lst xs) :=
    ⟨z, us, 0, r, Heap.get?_push_size _ rfl⟩
  exact ⟨.ref s1.heap.objs.size, _, I1.laid (t' := s1.toks) (fun b u e => Heap.get?_push_of_some _ e) (Nat.le_refl _) ok, rfl, q _ hf (new_low low I1)⟩
def rListN (K : PySem.W.Frag) : List V → Hp → VK → Prop := fun xs H Q => ∃ p ys, xs = [.ref p] ∧ SqL K H p ys ∧
  ∀ l, H l = none → l ≠ sysModules → Q (.ref l) (upd H l (.lst ys))
theorem call_listN (low : sysModules < X.base.objs.size) : CallR X (.type "list") (rListN X.K) := by
  intro pins s σ H xs us Q I r h
  obtain ⟨p, ys, rfl, hq, q⟩ := h
  obtain ⟨u, rfl, rx⟩ := vals1 r
  cases rx
  obtain ⟨its, rv, pl, hz⟩ := I.list hq
  have hlen := rv.length
  obtain ⟨o, ho, hc, n, hd⟩ := pl.isList
  refine call_list_seq p (.inl rfl) ho hc hd ?_ (by simp only [List.size_toArray]; omega)
  intro h2 c2 kp e
  have ok : ObjOk X.prog X.w (upd H s.heap.objs.size (.lst ys)) h2 s.heap.objs.size (.lst ys) := ⟨hz, its, c2, rv, e⟩
  exact ⟨.ref s.heap.objs.size, _, I.laid (t' := s.toks) kp (Nat.le_refl _) ok, rfl, q _ (I.hok.fresh (Nat.le_refl _)) (new_low low I)⟩
end
/-- a value that can be shown, dicts and lists in it -/
def GoodN (n m : Nat) (K : PySem.W.Frag) (H : Hp) (v : V) : Prop := ∃ d : PyData, Sh K false H v d ∧ Fit n m d
theorem GoodN.same {n m : Nat} {K : PySem.W.Frag} {H H' : Hp} {v : V} (g : GoodN n m K H v) (s : Same H H') : GoodN n m K H' v := by
  obtain ⟨d, h, r⟩ := g
  exact ⟨d, h.same s, r⟩
mutual
/-- the value v is the datum d, all in the heap; its lists lie where ok tells -/
inductive ShO (ok : Addr → Prop) (H : Hp) : V → PyData → Prop
  | non : ShO ok H .non .none
  | bl (b : Bool) : ShO ok H (.bl b) (.bool b)
  | int (i : Int) : ShO ok H (.int i) (.int i)
  | str (x : Str) : ShO ok H (.str x) (.str x)
  | lst {a : Addr} {xs : List V} {ds : List PyData} : H a = some (.lst xs) → ok a → ShOs ok H xs ds → ShO ok H (.ref a) (.list ds)
  | tup {a : Addr} {xs : List V} {ds : List PyData} : H a = some (.tup xs) → ShOs ok H xs ds → ShO ok H (.ref a) (.tuple ds)
  | dict {a : Addr} {kvs : List (Key × V)} {ks vs : List PyData} : H a = some (.dK kvs) → ShOs ok H (kvs.map fun p => kV p.1) ks →
      ShOs ok H (kvs.map fun p => p.2) vs → ShO ok H (.ref a) (.dict (ks.zip vs))
inductive ShOs (ok : Addr → Prop) (H : Hp) : List V → List PyData → Prop
  | nil : ShOs ok H [] []
  | cons {v : V} {vs : List V} {d : PyData} {ds : List PyData} : ShO ok H v d → ShOs ok H vs ds → ShOs ok H (v :: vs) (d :: ds)
end
mutual
theorem ShO.keep {ok : Addr → Prop} {H H' : Hp} (kL : ∀ a xs, ok a → H a = some (.lst xs) → H' a = some (.lst xs)) (kT : ∀ a xs, H a = some (.tup xs) → H' a = some (.tup xs))
    (kD : ∀ a xs, H a = some (.dK xs) → H' a = some (.dK xs)) : ∀ {v : V} {d : PyData}, ShO ok H v d → ShO ok H' v d
  | _, _, .non => .non
  | _, _, .bl b => .bl b
  | _, _, .int i => .int i
  | _, _, .str x => .str x
  | _, _, .lst h1 h2 h3 => .lst (kL _ _ h2 h1) h2 (ShOs.keep kL kT kD h3)
  | _, _, .tup h1 h3 => .tup (kT _ _ h1) (ShOs.keep kL kT kD h3)
  | _, _, .dict h1 h2 h3 => .dict (kD _ _ h1) (ShOs.keep kL kT kD h2) (ShOs.keep kL kT kD h3)
theorem ShOs.keep {ok : Addr → Prop} {H H' : Hp} (kL : ∀ a xs, ok a → H a = some (.lst xs) → H' a = some (.lst xs)) (kT : ∀ a xs, H a = some (.tup xs) → H' a = some (.tup xs))
    (kD : ∀ a xs, H a = some (.dK xs) → H' a = some (.dK xs)) : ∀ {vs : List V} {ds : List PyData}, ShOs ok H vs ds → ShOs ok H' vs ds
  | _, _, .nil => .nil
  | _, _, .cons h1 h2 => .cons (ShO.keep kL kT kD h1) (ShOs.keep kL kT kD h2)
end
theorem ShO.same {ok : Addr → Prop} {H H' : Hp} (s : Same H H') {v : V} {d : PyData} (h : ShO ok H v d) : ShO ok H' v d :=
  h.keep (fun _ _ _ e => s _ _ e) (fun _ _ e => s _ _ e) (fun _ _ e => s _ _ e)
theorem ShO.but {ok : Addr → Prop} {H H' : Hp} {p : Addr} {zs : List V} (hok : ∀ a, ok a → a ≠ p) (hp : H p = some (.lst zs)) (b : But p H H') {v : V} {d : PyData} (h : ShO ok H v d) : ShO ok H' v d :=
  h.keep (fun _ _ o e => b _ _ (hok _ o) e) (fun _ _ e => b _ _ (ne_of e hp (by intro z; cases z)) e) (fun _ _ e => b _ _ (ne_of e hp (by intro z; cases z)) e)
theorem ShOs.same {ok : Addr → Prop} {H H' : Hp} (s : Same H H') {v : List V} {d : List PyData} (h : ShOs ok H v d) : ShOs ok H' v d :=
  h.keep (fun _ _ _ e => s _ _ e) (fun _ _ e => s _ _ e) (fun _ _ e => s _ _ e)
theorem ShOs.but {ok : Addr → Prop} {H H' : Hp} {p : Addr} {zs : List V} (hok : ∀ a, ok a → a ≠ p) (hp : H p = some (.lst zs)) (b : But p H H') {v : List V} {d : List PyData} (h : ShOs ok H v d) : ShOs ok H' v d :=
  h.keep (fun _ _ o e => b _ _ (hok _ o) e) (fun _ _ e => b _ _ (ne_of e hp (by intro z; cases z)) e) (fun _ _ e => b _ _ (ne_of e hp (by intro z; cases z)) e)
theorem ShOs.snoc {ok : Addr → Prop} {H : Hp} : ∀ {vs : List V} {ds : List PyData} {v : V} {d : PyData}, ShOs ok H vs ds → ShO ok H v d → ShOs ok H (vs ++ [v]) (ds ++ [d])
  | _, _, _, _, .nil, h => .cons h .nil
  | _, _, _, _, .cons a b, h => .cons a (ShOs.snoc b h)
theorem ShOs.length {ok : Addr → Prop} {H : Hp} : ∀ {vs : List V} {ds : List PyData}, ShOs ok H vs ds → vs.length = ds.length
  | _, _, .nil => rfl
  | _, _, .cons _ t => by rw [List.length_cons, List.length_cons, t.length]
mutual
theorem ShO.sh {K : PySem.W.Frag} {ok : Addr → Prop} {H : Hp} (hok : ∀ a, ok a → a ≠ sysModules) : ∀ {v : V} {d : PyData}, ShO ok H v d → Sh K false H v d
  | _, _, .non => .non
  | _, _, .bl b => .bl b
  | _, _, .int i => .int i
  | _, _, .str x => .str x
  | _, _, .lst h1 h2 h3 => .lst (.inl (.inl h1)) (fun _ => hok _ h2) (ShOs.sh hok h3)
  | _, _, .tup h1 h3 => .tup (.inl (.inl h1)) (ShOs.sh hok h3)
  | _, _, .dict h1 h2 h3 => .dict rfl h1 (ShOs.sh hok h2) (ShOs.sh hok h3)
theorem ShOs.sh {K : PySem.W.Frag} {ok : Addr → Prop} {H : Hp} (hok : ∀ a, ok a → a ≠ sysModules) : ∀ {vs : List V} {ds : List PyData}, ShOs ok H vs ds → ShAll K false H vs ds
  | _, _, .nil => .nil
  | _, _, .cons h1 h2 => .cons (ShO.sh hok h1) (ShOs.sh hok h2)
end
/-- a hierarchy stays while a pot is drawn from -/
theorem HierAt.but {C : Addr} {H H' : Hp} {p x : Addr} {rows : List Row2} (hp : PotAt H p) (b : But p H H') (h : HierAt C H x rows) : HierAt C H' x rows := by
  obtain ⟨dx, r, q, u, rvs, kvs, h1, h2, h3, h4, h5, h6⟩ := h.ex
  obtain ⟨r0, g0, ep, _⟩ := id hp
  have nr : r ≠ p := by
    intro z
    rw [z, ep] at h2
    cases Option.some.inj h2
    cases h3 with
    | cons a _ =>
      obtain ⟨_, _, e, _⟩ := a
      cases e
  exact ⟨dx, r, q, u, rvs, kvs, b _ _ (ne_of h1 ep (by intro z; cases z)) h1, b _ _ nr h2, h3.but hp b, b _ _ (ne_of h4 ep (by intro z; cases z)) h4,
    b _ _ (ne_of h5 ep (by intro z; cases z)) h5, h6.mono fun d as e => b _ _ (ne_of e ep (by intro z; cases z)) e⟩
/-- where the lists of a drawn value lie -/
def Apart (p : Addr) : Addr → Prop := fun a => a ≠ p ∧ a ≠ sysModules
/-- a drawn value -/
def Drawn (n m : Nat) (p : Addr) (H : Hp) (v : V) : Prop := ∃ d : PyData, ShO (Apart p) H v d ∧ Fit n m d
theorem Drawn.same {n m : Nat} {p : Addr} {H H' : Hp} {v : V} (g : Drawn n m p H v) (s : Same H H') : Drawn n m p H' v := by
  obtain ⟨d, h, r⟩ := g
  exact ⟨d, h.same s, r⟩
theorem Drawn.but {n m : Nat} {p : Addr} {H H' : Hp} {v : V} (hp : PotAt H p) (b : But p H H') (g : Drawn n m p H v) : Drawn n m p H' v := by
  obtain ⟨d, h, r⟩ := g
  obtain ⟨r1, g1, e, _⟩ := hp
  exact ⟨d, h.but (fun _ z => z.1) e b, r⟩
theorem Drawn.mono {n m n' m' : Nat} {p : Addr} {H : Hp} {v : V} (g : Drawn n m p H v) (a : n ≤ n') (b : m ≤ m') : Drawn n' m' p H v := by
  obtain ⟨d, h, r⟩ := g
  exact ⟨d, h, r.mono a b⟩
theorem Drawn.good {n m : Nat} {K : PySem.W.Frag} {p : Addr} {H : Hp} {v : V} (g : Drawn n m p H v) : GoodN n m K H v := by
  obtain ⟨d, h, r⟩ := g
  exact ⟨d, h.sh (fun _ z => z.2), r⟩
theorem Drawn.non {n m : Nat} {p : Addr} {H : Hp} : Drawn n m p H .non := ⟨_, .non, fit_non.mono (Nat.zero_le _) (Nat.zero_le _)⟩
theorem Drawn.bl {n m : Nat} {p : Addr} {H : Hp} {b : Bool} : Drawn n m p H (.bl b) := ⟨_, .bl b, fit_bl.mono (Nat.zero_le _) (Nat.zero_le _)⟩
theorem Drawn.int {n m : Nat} {p : Addr} {H : Hp} {i : Int} (h : i.natAbs ≤ 10 ^ 60) (hn : 200 ≤ n := by decide) : Drawn n m p H (.int i) := ⟨_, .int i, (fit_int h).mono hn (Nat.zero_le _)⟩
theorem Drawn.str {n m k : Nat} {p : Addr} {H : Hp} {x : Str} (h : Sm k x) (hn : k ≤ n := by decide) : Drawn n m p H (.str x) := ⟨_, .str x, h.fit.mono hn (Nat.zero_le _)⟩
end Kv
/-! A datum of any kind against a text; a tuple of such against a tuple of texts. -/
namespace Kv
open PySem PySem.Spec PyProof.Rows L2
section
open PySem.SeqAt PySem.MeetsSeq AutoSeq1
theorem dict_eq_declines_str (l : Addr) (es : Array DictEntry) (ep : Nat) (dd : Option Addr) (sl : Array (Option Value)) (b : Str) (u : Tok) :
    Meets (Builtin.«dict.__eq__» ⟨[.ref l, .str b u], []⟩) (fun _ R s => s.heap.get? l = some { cls := .type "dict", dict := dd, data := .dict es ep, slots := sl } ∧ R (.ok (.ret .notImplemented)) s) :=
  .of_wp fun prog w A R s h => by obtain ⟨hp, g, d, tk, os⟩ := s; obtain ⟨hl, h⟩ := h; have f1 := F.sub_str_dict; wp_walk using wpAny_loadPart' hl; exact ⟨_, rfl, h⟩
theorem str_eq_declines_dict (b : Str) (u : Tok) (l : Addr) (es : Array DictEntry) (ep : Nat) (dd : Option Addr) (sl : Array (Option Value)) :
    Meets (Builtin.«str.__eq__» ⟨[.str b u, .ref l], []⟩) (fun _ R s => s.heap.get? l = some { cls := .type "dict", dict := dd, data := .dict es ep, slots := sl } ∧ R (.ok (.ret .notImplemented)) s) :=
  .of_wp fun prog w A R s h => by obtain ⟨hp, g, d, tk, os⟩ := s; obtain ⟨hl, h⟩ := h; wp_walk using wpAny_loadPart' hl, wpAny_load hl; exact ⟨_, rfl, h⟩
variable {A : Around} {s : Shared}
theorem rc_dict_str {l : Addr} {o : Obj} {es : Array DictEntry} {ep : Nat} (b : Str) (u : Tok) (ho : s.heap.get? l = some o) (hc : o.cls = .type "dict") (hd : o.data = .dict es ep)
    (hu : A.units < cLine) : RcAt A s (.ref l) (.str b u) false := fun prog w E Q h => by
  obtain ⟨cls, dd, data, sl⟩ := o
  simp only at hc hd
  subst hc hd
  exact rc_eq_decline_or (k := false) ⟨_, ho, rfl⟩ (typeIs_str s b u) (by decide) F.sub_str_dict F.slot_dict_eq F.slot_str_eq_refl
    (fun _ hq => call_meets F.slot_dict_eq ⟨_, ho, rfl⟩ F.entry_dict_eq (F.args_dict_eq_2 _ _) (dict_eq_declines_str l es ep dd sl b u) ⟨ho, hq⟩)
    (fun _ hq => call_meets F.slot_str_eq_refl (typeIs_str s b u) F.entry_str_eq (F.args_str_eq_2 _ _) (str_eq_declines_dict b u l es ep dd sl) ⟨ho, hq⟩)
    (fun _ hq => wpAny_of_eq (rfl : isSame (.ref l) (.str b u) = pure false) hq) (.inr hu) h
theorem eqAt_dict_str {l : Addr} {o : Obj} {es : Array DictEntry} {ep : Nat} (b : Str) (u : Tok) (ho : s.heap.get? l = some o) (hc : o.cls = .type "dict") (hd : o.data = .dict es ep)
    (hu : A.units < cLine) : EqAt A s (.ref l) (.str b u) false := fun prog w E Q h => by
  unfold eqBool
  refine wpAny_holding ?_
  refine wpAny_ite_split (fun hab => absurd (eq_of_beq hab) nofun) (fun _ => ?_)
  exact wpAny_bind (rc_dict_str b u ho hc hd hu prog w E _ (wpAny_truthy_bool h))
def strEq : PyData → Str → Bool
  | .str x, z => x == z
  | _, _ => false
theorem rc_any_str {v : Value} {d : PyData} {as : List Addr} (z : Str) (u : Tok) (r : Reads s.heap v d as) (hu : A.units < cLine) : RcAt A s v (.str z u) (strEq d z) := by
  cases r with
  | none => exact RcAt.none_str z u
  | bool y => exact RcAt.bool_str y z u
  | int y t => exact RcAt.int_str y t z u
  | str y t => exact RcAt.str_str y t z u
  | list k1 k2 k3 k4 => exact RcAt.list_str z u ⟨_, k1, k2, _, k3⟩ hu
  | tuple k1 k2 k3 k4 => exact RcAt.tuple_str z u ⟨_, k1, k2, _, k3⟩ hu
  | dict k1 k2 k3 k4 k5 => exact rc_dict_str z u k1 k2 k3 hu
theorem eqAt_any_str {v : Value} {d : PyData} {as : List Addr} (z : Str) (u : Tok) (r : Reads s.heap v d as) (hu : A.units < cLine) : EqAt A s v (.str z u) (strEq d z) := by
  cases r with
  | none => exact EqAt.none_str z u
  | bool y => exact EqAt.bool_str y z u
  | int y t => exact EqAt.int_str y t z u
  | str y t => exact EqAt.str_str y t z u
  | list k1 k2 k3 k4 => exact EqAt.list_str z u ⟨_, k1, k2, _, k3⟩ hu
  | tuple k1 k2 k3 k4 => exact EqAt.tuple_str z u ⟨_, k1, k2, _, k3⟩ hu
  | dict k1 k2 k3 k4 k5 => exact eqAt_dict_str z u k1 k2 k3 hu
/-- a tuple of data is that tuple of texts -/
def tupEq : List PyData → List Str → Bool
  | [], [] => true
  | d :: ds, z :: zs => strEq d z && tupEq ds zs
  | _, _ => false
abbrev pairS (ds : List PyData) (zs : List Str) (j : Nat) : Bool := strEq (ds.getD j .none) (zs.getD j "")
theorem tupEq_eq : ∀ (ds : List PyData) (zs : List Str), ((List.range (min ds.length zs.length)).all (pairS ds zs) && ds.length == zs.length) = tupEq ds zs
  | [], [] => rfl
  | [], _ :: _ => by simp [tupEq]
  | _ :: _, [] => by simp [tupEq]
  | x :: xs, y :: ys => by
    have ih := tupEq_eq xs ys
    have e1 : min (x :: xs).length (y :: ys).length = min xs.length ys.length + 1 := by simp only [List.length_cons]; omega
    have e2 : ((x :: xs).length == (y :: ys).length) = (xs.length == ys.length) := by simp
    have e3 : (List.range (min xs.length ys.length + 1)).all (pairS (x :: xs) (y :: ys)) = (strEq x y && (List.range (min xs.length ys.length)).all (pairS xs ys)) := by
      rw [List.range_succ_eq_map, List.all_cons, List.all_map]
      first | rfl | simp [pairS, Function.comp_def]
    rw [e1, e2, e3, tupEq, ← ih, Bool.and_assoc]
theorem readsAll_get {h : Heap} : ∀ {ds : List PyData} {vs : List Value} {as : List Addr} {j : Nat} {v : Value}, ReadsAll h vs ds as → vs[j]? = some v → ∃ bs, Reads h v (ds.getD j .none) bs
  | _, _, _, _, _, .nil, e => by simp at e
  | _, _, _, 0, v, .cons r _, e => by
    simp at e
    subst e
    exact ⟨_, r⟩
  | _, _, _, j + 1, v, .cons _ r, e => by
    obtain ⟨bs, q⟩ := readsAll_get (j := j) r (by simpa using e)
    exact ⟨bs, by simpa using q⟩
theorem vals_strs_get : ∀ {zs : List Str} {us : List Value} {j : Nat} {u : Value}, Vals (zs.map V.str) us → us[j]? = some u → ∃ t, u = .str (zs.getD j "") t
  | [], _, _, _, r, e => by
    cases r
    simp at e
  | z :: zs, _, 0, u, .cons r _, e => by
    simp at e
    subst e
    obtain ⟨t, rfl⟩ := r
    exact ⟨t, rfl⟩
  | z :: zs, _, j + 1, u, .cons _ r, e => by
    obtain ⟨t, q⟩ := vals_strs_get (zs := zs) (j := j) r (by simpa using e)
    exact ⟨t, by simpa using q⟩
end
section
variable {X : Cx}
def rEqTx (K : PySem.W.Frag) : R2 := fun x y H Q => ∃ nd d z, Sh K nd H x d ∧ y = .str z ∧ Q (.bl (strEq d z)) H
theorem op_eqTx (hu : X.A.units < cLine) : OpR X (compareOp .Eq) (rEqTx X.K) := by
  intro pins s σ H x y v u Q I rx ry h
  obtain ⟨nd, d, z, sh, rfl, q⟩ := h
  obtain ⟨t, rfl⟩ := ry
  obtain ⟨as, rd, _⟩ := sh.reads I rx
  exact rc_any_str z t rd hu _ _ _ _ ⟨.bl _, H, I, rfl, q⟩
def rEqTT (K : PySem.W.Frag) : R2 := fun x y H Q => ∃ (nd : Bool) (a b : Addr) (xs : List V) (ds : List PyData) (zs : List Str), x = .ref a ∧ SqT K H a xs ∧ ShAll K nd H xs ds ∧ y = .ref b ∧ SqT K H b (zs.map V.str) ∧ Q (.bl (tupEq ds zs)) H
theorem op_eqTT (hu : X.A.units + 1 < cLine) : OpR X (compareOp .Eq) (rEqTT X.K) := by
  intro pins s σ H x y v u Q I rx ry h
  obtain ⟨nd, a, b, xs, ds, zs, rfl, ha, hs, rfl, hb, q⟩ := h
  cases rx
  cases ry
  obtain ⟨its, rv, tx, _⟩ := I.tuple ha
  obtain ⟨jts, rw2, ty, _⟩ := I.tuple hb
  obtain ⟨as, rd, _⟩ := hs.reads I rv
  have n1 : its.toArray.size = ds.length := by
    rw [List.size_toArray, ← rv.length, hs.length]
  have n2 : jts.toArray.size = zs.length := by
    rw [List.size_toArray, ← rw2.length, List.length_map]
  refine SeqAt.RcAt.tuples (e := pairS ds zs) tx ty (by omega) (fun j h1 h2 => ?_) _ _ _ _ ⟨.bl (tupEq ds zs), H, I, ?_, q⟩
  · have g1 : its[j]? = some its.toArray[j] := by
      simp
    have g2 : jts[j]? = some jts.toArray[j] := by
      simp
    obtain ⟨bs, r1⟩ := readsAll_get rd g1
    obtain ⟨t, e⟩ := vals_strs_get rw2 g2
    rw [e]
    exact eqAt_any_str _ _ r1 (show X.A.units + 1 < cLine from hu)
  · rw [n1, n2, tupEq_eq]
    rfl
end
end Kv
namespace Lw
open PySem PySem.Spec PyProof.Rows L2 Kv
def topS (i : Nat) : Stmt := PySem.Challenge.pw_fewestmethods_k31_bodies_judged.main.body.getD i (.Pass ⟨0, 0, 0, 0⟩)
abbrev sIsName : Stmt := topS 3
abbrev sIsCount : Stmt := topS 6
abbrev sIsArg : Stmt := topS 11
abbrev sAreArgs : Stmt := topS 12
abbrev sIsStep : Stmt := topS 13
abbrev sIsBody : Stmt := topS 14
abbrev sPot : Stmt := topS 16
abbrev sDraw : Stmt := topS 17
abbrev sName : Stmt := topS 18
abbrev sStep : Stmt := topS 19
abbrev sOddA : Stmt := topS 20
abbrev sOddS : Stmt := topS 21
abbrev sChg : Stmt := topS 22
abbrev sLWord : Stmt := topS 23
abbrev sLArg : Stmt := topS 24
abbrev sLStep : Stmt := topS 25
abbrev sLBody : Stmt := topS 26
abbrev sRight : Stmt := topS 27
abbrev sCell : Stmt := topS 28
abbrev sLaw : Stmt := topS 29
end Lw
namespace Lw
open PySem PySem.Spec PyProof.Rows L2 Kv
theorem scPot : FnScope ["_law_script", "_law_k", "_law_cell"] ["_law_script", "_law_k"] (defScope sPot) :=
  ⟨rfl, rfl, rfl, by decide +kernel, rfl, by decide +kernel, by decide +kernel⟩
theorem scDraw : FnScope ["_law_pot_here", "_law_many", "_law_digit"] ["_law_pot_here", "_law_many"] (defScope sDraw) :=
  ⟨rfl, rfl, rfl, by decide +kernel, rfl, by decide +kernel, by decide +kernel⟩
section
variable {P : Program} {w : World} {K : PySem.W.Frag} {mg : Str → Option Value} {base : Heap}
def spPot (K : PySem.W.Frag) : Sp := fun vs H Q _ => ∃ (a : Addr) (ns : List Int) (j : Nat),
  vs = [.ref a, .int j] ∧ SqL K H a (ns.map V.int) ∧ j ≤ 1000 ∧
  ∀ p H', Same H H' → H p = none → PotAt H' p → Q (.ref p) H'
theorem ok_pot {f : Addr} {fd : FuncData} {k : Nat} (F : Fun K "_law_pot" "_law_pot" sPot f fd)
    (ml : mg "len" = none) (mm : mg "max" = none) (ma : mg "abs" = none) :
    FnOk P w K mg base CX0 (k + 1) f fd ["_law_script", "_law_k"] (spPot K) := by
  refine F.ok scPot (fun vs H Q E h => ?_) (fun cdv A outer s H vs Q E hr h => ?_)
  · obtain ⟨a, ns, j, rfl, _⟩ := h
    rfl
  · obtain ⟨a, ns, j, rfl, hS, hj, q⟩ := h
    refine ⟨_, pss_cons (ps_set (i := 2) scPot.nd rfl (.inl rfl)
        (pe_ifExp (pt_cmpR op_lt (pv 1) (pe_callB call_len_seq (by rfl) ml PySem.boot_len (pa_cons (pv 0) pa_nil)) (nomark _))
          (pe_ix ix_list (pv 0) (pv 1) (fun _ _ => rfl)) pe_int))
      (pss_one (ps_ret (pe_lst (pa_cons
        (pe_callB (call_max2 rfl) (by rfl) mm (by decide +kernel) (pa_cons pe_int (pa_cons
          (pe_op op_sub (pe_callB call_abs (by rfl) ma (by decide +kernel) (pa_cons (pv 2) pa_nil)) (pe_op op_pow pe_int pe_int)) pa_nil)))
        (pa_cons (pe_op op_mod (pe_op op_add (pe_op op_add (pe_op op_mul (pe_op op_mod (pe_callB call_abs (by rfl) ma (by decide +kernel) (pa_cons (pv 2) pa_nil)) pe_int) pe_int)
          (pe_op op_mul pe_int (pv 1))) pe_int) pe_int) pa_nil))))), ?_⟩
    refine ⟨.int j, rfl, .ref a, rfl, a, _, rfl, .inl hS, _, _, rfl, rfl, _, rfl, ite2 (fun e => ?_) (fun e => ?_)⟩
    · have e1 : (j : Int) < ((ns.map V.int).length : Int) := of_decide_eq_true e
      have e2 : j < ns.length := by
        rw [List.length_map] at e1
        omega
      refine ⟨.ref a, rfl, .int j, rfl, a, _, j, .int ns[j], rfl, rfl, hS, atI_nat (j := j) (by
        rw [List.getElem?_map, List.getElem?_eq_getElem e2]
        rfl), ?_⟩
      generalize ns[j] = c
      have b1 : 0 ≤ (if c < 0 then -c else c) % 2147483587 := Int.emod_nonneg _ (by decide)
      have b2 : (if c < 0 then -c else c) % 2147483587 < 2147483587 := Int.emod_lt_of_pos _ (by decide)
      refine ⟨.int c, rfl, c, rfl, 10, 18, rfl, rfl, ⟨by decide, by decide, by decide⟩, _, _, rfl, rfl, _, _, rfl,
        .int c, rfl, c, rfl, _, _, rfl, rfl, (by decide : (0 : Int) < 2147483587), _, _, rfl, rfl, .inl ⟨?_, ?_⟩,
        .int j, rfl, _, _, rfl, rfl, .inl ⟨by decide, by decide⟩, _, _, rfl, rfl, _, _, rfl, rfl, _, _, rfl, rfl, (by decide : (0 : Int) < 2147483647),
        (by decide : 2 ≤ sizeLine), fun p np => ?_⟩
      · omega
      · omega
      · exact q p _ (same_new np) np ⟨_, _, upd_same, by split <;> omega, Int.emod_nonneg _ (by decide), Int.emod_lt_of_pos _ (by decide)⟩
    · have b1 : 0 ≤ (if (0 : Int) < 0 then -0 else 0) % 2147483587 := Int.emod_nonneg _ (by decide)
      have b2 : (if (0 : Int) < 0 then -0 else 0) % 2147483587 < 2147483587 := Int.emod_lt_of_pos _ (by decide)
      refine ⟨.int 0, rfl, 0, rfl, 10, 18, rfl, rfl, ⟨by decide, by decide, by decide⟩, _, _, rfl, rfl, _, _, rfl,
        .int 0, rfl, 0, rfl, _, _, rfl, rfl, (by decide : (0 : Int) < 2147483587), _, _, rfl, rfl, .inl ⟨?_, ?_⟩,
        .int j, rfl, _, _, rfl, rfl, .inl ⟨by decide, by decide⟩, _, _, rfl, rfl, _, _, rfl, rfl, _, _, rfl, rfl, (by decide : (0 : Int) < 2147483647),
        (by decide : 2 ≤ sizeLine), fun p np => ?_⟩
      · omega
      · omega
      · exact q p _ (same_new np) np ⟨_, _, upd_same, by split <;> omega, Int.emod_nonneg _ (by decide), Int.emod_lt_of_pos _ (by decide)⟩
end
section
variable {P : Program} {w : World} {K : PySem.W.Frag} {mg : Str → Option Value} {base : Heap}
def spDraw : Sp := fun vs H Q _ => ∃ (p : Addr) (m : Int), vs = [.ref p, .int m] ∧ PotAt H p ∧ 0 < m ∧ m ≤ 10 ^ 60 ∧
  ∀ H' (d : Int), 0 ≤ d → d < m → PotAt H' p → But p H H' → Q (.int d) H'
theorem ok_draw {f : Addr} {fd : FuncData} {k : Nat} (F : Fun K "_law_draw" "_law_draw" sDraw f fd)
    (md : mg "divmod" = none) : FnOk P w K mg base CX0 (k + 1) f fd ["_law_pot_here", "_law_many"] spDraw := by
  refine F.ok scDraw (fun vs H Q E h => ?_) (fun cdv A outer s H vs Q E hr h => ?_)
  · obtain ⟨a, m, rfl, _⟩ := h
    rfl
  · obtain ⟨a, m, rfl, ⟨r, g, hp, r0, g0, g1⟩, m0, m1, q⟩ := h
    refine ⟨_, pss_cons (ps_if (pt_cmpR op_gt (pe_ix ix_list (pv 0) pe_int (fun _ _ => rfl)) pe_int (nomark _))
        (pss_cons (ps_asg (pe_callB call_divmodW (by rfl) md (by decide +kernel) (pa_cons (pe_ix ix_list (pv 0) pe_int (fun _ _ => rfl)) (pa_cons (pv 1) pa_nil)))
            (pg_tup (by rfl) (pgs_cons (pg_sub (pv 0) pe_int set_list) (pgs_cons (pg_name (i := 2) scDraw.nd rfl (.inl rfl)) pgs_nil))))
          (pss_one (ps_ret (pv 2)))) pss_nil)
      (pss_cons (ps_asg (pe_op op_mod (pe_op op_add (pe_op op_mul (pe_ix ix_list (pv 0) pe_int (fun _ _ => rfl)) pe_int) pe_int) pe_int) (pg_sub (pv 0) pe_int set_list))
      (pss_one (ps_ret (pe_op op_mod (pe_op op_fdiv (pe_op op_mod (pe_op op_mul (pe_ix ix_list (pv 0) pe_int (fun _ _ => rfl)) (pe_ix ix_list (pv 0) pe_int (fun _ _ => rfl))) pe_int) pe_int) (pv 1))))), ?_⟩
    have hS : SqL K H a [.int r, .int g] := .inl (.inl hp)
    refine ⟨.ref a, rfl, a, _, 0, .int r, rfl, rfl, hS, rfl, _, _, rfl, rfl, _, rfl, ite2 (fun e => ?_) (fun e => ?_)⟩
    · have e1 : r > 0 := of_decide_eq_true e
      refine ⟨.ref a, rfl, a, _, 0, .int r, rfl, rfl, hS, rfl, .int m, rfl, _, _, rfl, divp_small m0 ?_, fun t nt => ?_⟩
      · have : m.natAbs ≤ 10 ^ 60 := by omega
        exact Nat.lt_of_le_of_lt this (Nat.lt_of_lt_of_le (by decide : 10 ^ 60 < 2 ^ 200) (Nat.pow_le_pow_right (by decide) (by decide)))
      · have nta : a ≠ t := ne_of_none hp nt
        refine ⟨t, _, rfl, .inl (.inl upd_same), rfl, _, _, rfl, .ref a, rfl, a, _, 0, 0, rfl, rfl, (by rw [upd_ne nta]; exact hp), rfl, _, _, rfl, rfl, _, rfl, ?_⟩
        refine q _ _ (Int.emod_nonneg _ (by omega)) (Int.emod_lt_of_pos _ m0) ⟨_, _, upd_same, Int.ediv_nonneg r0 (by omega), g0, g1⟩ ?_
        intro b o nb hb
        rw [upd_ne nb, upd_ne (ne_of_none hb nt)]
        exact hb
    · refine ⟨.ref a, rfl, a, _, 1, .int g, rfl, rfl, hS, rfl, _, _, rfl, rfl, .inl ⟨by omega, by omega⟩, _, _, rfl, rfl, _, _, rfl, rfl, (by decide : (0 : Int) < 2147483629),
        .ref a, rfl, a, _, 1, 1, rfl, rfl, hp, rfl, ?_⟩
      have b0 : 0 ≤ ((g * 39373 + 12227) % 2147483629) := Int.emod_nonneg _ (by decide)
      have b1 : ((g * 39373 + 12227) % 2147483629) < 2147483629 := Int.emod_lt_of_pos _ (by decide)
      have hS2 : SqL K (upd H a (.lst [.int r, .int ((g * 39373 + 12227) % 2147483629)])) a [.int r, .int ((g * 39373 + 12227) % 2147483629)] := .inl (.inl upd_same)
      refine ⟨.ref a, rfl, a, _, 1, .int ((g * 39373 + 12227) % 2147483629), rfl, rfl, hS2, rfl, .ref a, rfl, a, _, 1, .int ((g * 39373 + 12227) % 2147483629), rfl, rfl, hS2, rfl, _, _, rfl, rfl, .inl ⟨by omega, by omega⟩,
        _, _, rfl, rfl, (by decide : (0 : Int) < 2147483563), _, _, rfl, rfl, ⟨by decide, by decide⟩, .int m, rfl, _, _, rfl, rfl, m0, ?_⟩
      refine q _ _ (Int.emod_nonneg _ (by omega)) (Int.emod_lt_of_pos _ m0) ⟨_, _, upd_same, r0, b0, by omega⟩ ?_
      intro b o nb hb
      rw [upd_ne nb]
      exact hb
end
end Lw
namespace Lw
open PySem PySem.Spec PyProof.Rows L2 Kv
theorem scIsName : FnScope ["value", "letter"] ["value"] (defScope sIsName) :=
  ⟨rfl, rfl, rfl, by decide +kernel, rfl, by decide +kernel, by decide +kernel⟩
section
variable {P : Program} {w : World} {K : PySem.W.Frag} {mg : Str → Option Value} {base : Heap}
def spName (K : PySem.W.Frag) : Sp := fun vs H Q _ => ∃ (v : V) (nd : Bool) (d : PyData), vs = [v] ∧ Sh K nd H v d ∧ (∀ x, v = .str x → x.length ≤ 10000) ∧ ∀ H', Same H H' → Q (.bl (nameV v)) H'
theorem ok_isname {f : Addr} {fd : FuncData} {k : Nat} {t1 t2 : Tok} (F : Fun K "is_name" "is_name" sIsName f fd)
    (mi : mg "isinstance" = none) (ms : mg "str" = none) (ml : mg "len" = none) (ma : mg "all" = none)
    (g1 : mg "LETTERS" = some (.str "abcdefghijklmnopqrstuvwxyz" t1)) (g2 : mg "LONGEST_NAME" = some (.int 8 t2)) :
    FnOk P w K mg base CX0 (k + 1) f fd ["value"] (spName K) := by
  refine F.ok scIsName (fun vs H Q E h => ?_) (fun cdv A outer s H vs Q E hr h => ?_)
  · obtain ⟨a, _, _, rfl, _⟩ := h
    rfl
  · obtain ⟨v, nd, d, rfl, sh, hv, q⟩ := h
    refine ⟨_, pss_cons (ps_if (pt_not (pt_val (pe_callB call_isi (by rfl) mi (by decide +kernel) (pa_cons (pv 0)
          (pa_cons (pe_bltn (v := .ty "str") (by rfl) ms (by decide +kernel : bootBuiltins "str" = some (.type "str")) rfl) pa_nil))))) (pss_one (ps_ret pe_bl)) pss_nil)
      (pss_one (ps_ret (pe_and (pe_chain op_le op_le pe_int (pe_callB call_len_str (by rfl) ml PySem.boot_len (pa_cons (pv 0) pa_nil)) (pe_glob (v := .int 8) (by rfl) g2 ⟨_, rfl⟩))
        (pe_one (pe_callB (cr_all rfl) (by rfl) ma (by decide +kernel) (pa_cons
          (pe_lc (own := [("letter", 1)]) (g := gName 1) (tt := tYes) rfl scIsName.nd (pi_str (pv 0))
            (blkOk_by (own := [("letter", 1)]) (N := ["value", "letter"]) (sc := defScope sIsName) (by decide +kernel))
            (fun _ _ _ _ _ => pg_name (i := 1) scIsName.nd rfl (Or.inl rfl)) (fun _ _ _ _ _ => pts_nil)
            (fun _ _ _ _ _ => pe_cmpR op_in_sign (pv 1) (pe_glob (v := .str "abcdefghijklmnopqrstuvwxyz") (by rfl) g1 ⟨_, rfl⟩) rfl)) pa_nil)))))), ?_⟩
    obtain ⟨T, ty, hT⟩ := sh.ty
    rcases hT with ⟨x, rfl, rfl⟩ | ⟨hne, hT⟩
    · have hx := hv x rfl
      have hxl : x.length ≤ sizeLine := szle hx
      refine ⟨.str x, rfl, .str x, .ty "str", _, _, true, rfl, .ty "str", ty, kit_ty (by decide +kernel), true, rfl, iteF ?_⟩
      refine ⟨.str x, rfl, x, rfl, hxl, _, _, rfl, rfl, _, rfl, ite2 (fun e => ?_) (fun e => ?_)⟩
      · have e1 : (1 : Int) ≤ x.length := of_decide_eq_true e
        refine ⟨_, _, rfl, rfl, _, rfl, ite2 (fun e2 => ?_) (fun e2 => ?_)⟩
        · have e3 : (x.length : Int) ≤ 8 := of_decide_eq_true e2
          refine ⟨.str x, rfl, x, rfl, fun D nD => ?_⟩
          refine lc_it walk_str (fun i H3 => H3 = upd H D (.lst ((x.cps.toList.take i).map fun c => .bl (inAz c)))) ?_ (fun _ _ _ _ => trivial) (fun i y H3 H4 hi hP hY => ?_) (fun H3 hP => ?_)
          · rfl
          · obtain ⟨rfl, c, hc, rfl⟩ := hY
            subst hP
            refine ⟨rfl, .str ⟨#[c]⟩, rfl, c, _, rfl, rfl, _, upd_same, ?_, ?_⟩
            · rw [List.length_map, List.length_take]
              exact sz1 (by
                have : i < x.length := hi
                omega)
            · have hc2 : x.cps.toList[i]? = some c := by
                rw [Array.getElem?_toList]
                exact hc
              rw [upd_upd, List.take_add_one, hc2, List.map_append]
              rfl
          · subst hP
            refine ⟨D, (x.cps.toList.take x.cps.size).map inAz, rfl, .inl (.inl ?_), ?_⟩
            · rw [upd_same, List.map_map]
              rfl
            · have e4 : x.cps.toList.take x.cps.size = x.cps.toList := List.take_of_length_le (by rw [Array.length_toList]; exact Nat.le_refl _)
              have e5 : ((x.cps.toList.take x.cps.size).map inAz).all id = nameV (.str x) := by
                rw [e4, List.all_map]
                show _ = ((decide (1 ≤ x.length) && decide (x.length ≤ 8)) && x.cps.toList.all inAz)
                rw [decide_eq_true (by omega : 1 ≤ x.length), decide_eq_true (by omega : x.length ≤ 8)]
                rfl
              rw [e5]
              exact q _ (same_new nD)
        · have e3 : ¬ (x.length : Int) ≤ 8 := fun z => e2 (decide_eq_true z)
          have e5 : nameV (.str x) = false := by
            show ((decide (1 ≤ x.length) && decide (x.length ≤ 8)) && x.cps.toList.all inAz) = false
            rw [decide_eq_false (by omega : ¬ x.length ≤ 8), Bool.and_false, Bool.false_and]
          have := q H (Same.refl _)
          rw [e5] at this
          exact this
      · have e1 : ¬ (1 : Int) ≤ x.length := fun z => e (decide_eq_true z)
        have e5 : nameV (.str x) = false := by
          show ((decide (1 ≤ x.length) && decide (x.length ≤ 8)) && x.cps.toList.all inAz) = false
          rw [decide_eq_false (by omega : ¬ 1 ≤ x.length), Bool.false_and, Bool.false_and]
        have := q H (Same.refl _)
        rw [e5] at this
        exact ⟨false, rfl, iteF this⟩
    · have hk : kitB T "str" = some false := by
        rcases hT with rfl | rfl | rfl | rfl | rfl | rfl <;> decide +kernel
      have := q H (Same.refl _)
      rw [nameV_not hne] at this
      exact ⟨v, rfl, v, .ty "str", _, _, false, rfl, .ty "str", ty, kit_ty hk, false, rfl, iteT this⟩
end
end Lw
/-! Steps and bodies: what the program says of them. -/
namespace Lw
open PySem PySem.Spec PyProof.Rows L2 Kv
def wordD : PyData → Bool
  | .str x => nameV (.str x)
  | _ => false
def argD (n : Int) : PyData → Bool
  | .int i => decide (0 ≤ i) && decide (i < n)
  | .str x => nameV (.str x)
  | _ => false
def argsD (n : Int) : PyData → Bool
  | .tuple ds => (decide (1 ≤ ds.length) && decide (ds.length ≤ 3)) && ds.all (argD n)
  | _ => false
def stepL (n : Int) : List PyData → Bool
  | [a, b] => strEq a "say" && wordD b
  | [a, b, c] => strEq a "call" && (wordD b && argsD n c)
  | ds => tupEq ds ["next"]
def stepD (n : Int) : PyData → Bool
  | .tuple ds => stepL n ds
  | _ => false
def nextD : PyData → Bool
  | .tuple ds => tupEq ds ["next"]
  | _ => false
def bodyD (n : Int) : PyData → Bool
  | .tuple ds => ds.all (stepD n) && decide ((ds.filter nextD).length ≤ 1)
  | _ => false
/-! what isinstance says -/
def tyD : PyData → String
  | .none => "NoneType"
  | .bool _ => "bool"
  | .int _ => "int"
  | .str _ => "str"
  | .list _ => "list"
  | .tuple _ => "tuple"
  | .dict _ => "dict"
theorem _root_.Kv.Sh.tyIs {K : PySem.W.Frag} {nd : Bool} {H : Hp} {v : V} {d : PyData} (h : Sh K nd H v d) : TyX K H v (.type (tyD d)) := by
  cases h with
  | non => exact .base .non
  | bl b => exact .base (.bl b)
  | int i => exact .base (.int i)
  | str x => exact .base (.str x)
  | lst h1 _ _ => exact tyL h1
  | tup h1 _ => exact tyT h1
  | dict _ h1 _ _ => exact .base (.dK h1)
def isTup : PyData → Bool
  | .tuple _ => true
  | _ => false
def isStr : PyData → Bool
  | .str _ => true
  | _ => false
def isInt : PyData → Bool
  | .int _ => true
  | .bool _ => true
  | _ => false
def isBool : PyData → Bool
  | .bool _ => true
  | _ => false
theorem kit_tup : ∀ d : PyData, kitB (tyD d) "tuple" = some (isTup d)
  | .none => (by decide +kernel : kitB "NoneType" "tuple" = some false)
  | .bool _ => (by decide +kernel : kitB "bool" "tuple" = some false)
  | .int _ => (by decide +kernel : kitB "int" "tuple" = some false)
  | .str _ => (by decide +kernel : kitB "str" "tuple" = some false)
  | .list _ => (by decide +kernel : kitB "list" "tuple" = some false)
  | .tuple _ => (by decide +kernel : kitB "tuple" "tuple" = some true)
  | .dict _ => (by decide +kernel : kitB "dict" "tuple" = some false)
theorem kit_str : ∀ d : PyData, kitB (tyD d) "str" = some (isStr d)
  | .none => (by decide +kernel : kitB "NoneType" "str" = some false)
  | .bool _ => (by decide +kernel : kitB "bool" "str" = some false)
  | .int _ => (by decide +kernel : kitB "int" "str" = some false)
  | .str _ => (by decide +kernel : kitB "str" "str" = some true)
  | .list _ => (by decide +kernel : kitB "list" "str" = some false)
  | .tuple _ => (by decide +kernel : kitB "tuple" "str" = some false)
  | .dict _ => (by decide +kernel : kitB "dict" "str" = some false)
theorem kit_int : ∀ d : PyData, kitB (tyD d) "int" = some (isInt d)
  | .none => (by decide +kernel : kitB "NoneType" "int" = some false)
  | .bool _ => (by decide +kernel : kitB "bool" "int" = some true)
  | .int _ => (by decide +kernel : kitB "int" "int" = some true)
  | .str _ => (by decide +kernel : kitB "str" "int" = some false)
  | .list _ => (by decide +kernel : kitB "list" "int" = some false)
  | .tuple _ => (by decide +kernel : kitB "tuple" "int" = some false)
  | .dict _ => (by decide +kernel : kitB "dict" "int" = some false)
theorem kit_bool : ∀ d : PyData, kitB (tyD d) "bool" = some (isBool d)
  | .none => (by decide +kernel : kitB "NoneType" "bool" = some false)
  | .bool _ => (by decide +kernel : kitB "bool" "bool" = some true)
  | .int _ => (by decide +kernel : kitB "int" "bool" = some false)
  | .str _ => (by decide +kernel : kitB "str" "bool" = some false)
  | .list _ => (by decide +kernel : kitB "list" "bool" = some false)
  | .tuple _ => (by decide +kernel : kitB "tuple" "bool" = some false)
  | .dict _ => (by decide +kernel : kitB "dict" "bool" = some false)
theorem word_name {K : PySem.W.Frag} {nd : Bool} {H : Hp} {v : V} {d : PyData} (h : Sh K nd H v d) : nameV v = wordD d := by
  cases h <;> rfl
theorem fit_all {n m : Nat} : ∀ {ds : List PyData} {i : Nat} {d : PyData}, FitAll n m ds → ds[i]? = some d → Fit n m d
  | [], i, d, _, e => by simp at e
  | x :: r, i, d, a, e => by
    obtain ⟨a1, a2, a3, a4⟩ := a
    simp only [PyData.showableAll, Bool.and_eq_true] at a1
    simp only [PyData.leavesShortAll, Bool.and_eq_true] at a2
    simp only [PyData.weightAll] at a3
    simp only [PyData.depthAll] at a4
    cases i with
    | zero =>
      have e2 : x = d := by simpa using e
      subst e2
      exact ⟨a1.1, a2.1, by omega, by omega⟩
    | succ i => exact fit_all (ds := r) (i := i) ⟨a1.2, a2.2, by omega, by omega⟩ (by simpa using e)
theorem fit_tup {n m : Nat} {ds : List PyData} (h : Fit n m (.tuple ds)) : FitAll n m ds := by
  obtain ⟨a1, a2, a3, a4⟩ := h
  simp only [PyData.showable] at a1
  simp only [PyData.leavesShort] at a2
  simp only [PyData.weight] at a3
  simp only [PyData.depth] at a4
  exact ⟨a1, a2, by omega, by omega⟩
theorem fit_len {n m : Nat} : ∀ {ds : List PyData}, FitAll n m ds → ds.length ≤ n
  | [], _ => Nat.zero_le _
  | x :: r, a => by
    obtain ⟨a1, a2, a3, a4⟩ := a
    simp only [PyData.showableAll, Bool.and_eq_true] at a1
    simp only [PyData.leavesShortAll, Bool.and_eq_true] at a2
    simp only [PyData.weightAll] at a3
    simp only [PyData.depthAll] at a4
    have := fit_len (ds := r) (n := n - 1 - x.weight) (m := m) ⟨a1.2, a2.2, by omega, by omega⟩
    simp only [List.length_cons]
    omega
theorem fit_str {K : PySem.W.Frag} {nd : Bool} {H : Hp} {n m : Nat} {v : V} {d : PyData} (h : Sh K nd H v d) (hf : Fit n m d) (hn : n ≤ 10000 := by decide) : ∀ x, v = .str x → x.length ≤ 10000 := by
  intro x e
  subst e
  cases h
  have h := hf.2.2.1
  simp only [PyData.weight] at h
  exact Nat.le_trans h hn
theorem shGet {K : PySem.W.Frag} {nd : Bool} {H : Hp} : ∀ {vs : List V} {ds : List PyData} {i : Nat} {v : V}, ShAll K nd H vs ds → vs[i]? = some v → ∃ d, ds[i]? = some d ∧ Sh K nd H v d
  | _, _, _, _, .nil, e => by simp at e
  | _, _, 0, _, .cons a _, e => by
    simp at e
    subst e
    exact ⟨_, rfl, a⟩
  | _, _, i + 1, v, .cons _ b, e => by
    obtain ⟨d, h1, h2⟩ := shGet (i := i) (v := v) b (by simpa using e)
    exact ⟨d, by simpa using h1, h2⟩
/-! the defs -/
def countV : V → Bool
  | .int i => decide (1 ≤ i) && decide (i ≤ 3)
  | _ => false
theorem scCount : FnScope ["value"] ["value"] (defScope sIsCount) :=
  ⟨rfl, rfl, rfl, by decide +kernel, rfl, by decide +kernel, by decide +kernel⟩
theorem scIsArg : FnScope ["value", "count"] ["value", "count"] (defScope sIsArg) :=
  ⟨rfl, rfl, rfl, by decide +kernel, rfl, by decide +kernel, by decide +kernel⟩
abbrev NAreArgs : List Str := ["value", "count", "item"]
theorem scAreArgs : FnScope NAreArgs ["value", "count"] (defScope sAreArgs) :=
  ⟨rfl, rfl, rfl, by decide +kernel, rfl, by decide +kernel, by decide +kernel⟩
theorem scIsStep : FnScope ["value", "count"] ["value", "count"] (defScope sIsStep) :=
  ⟨rfl, rfl, rfl, by decide +kernel, rfl, by decide +kernel, by decide +kernel⟩
abbrev NIsBody : List Str := ["value", "count", "step"]
theorem scIsBody : FnScope NIsBody ["value", "count"] (defScope sIsBody) :=
  ⟨rfl, rfl, rfl, by decide +kernel, rfl, by decide +kernel, by decide +kernel⟩
section
variable {P : Program} {w : World} {K : PySem.W.Frag} {mg : Str → Option Value} {base : Heap}
def spCount (K : PySem.W.Frag) : Sp := fun vs H Q _ => ∃ (i : Int), vs = [.int i] ∧ Q (.bl (decide (1 ≤ i) && decide (i ≤ 3))) H
theorem ok_count {f : Addr} {fd : FuncData} {k : Nat} {t1 : Tok} (F : Fun K "is_parameter_count" "is_parameter_count" sIsCount f fd)
    (mi : mg "isinstance" = none) (mI : mg "int" = none) (mB : mg "bool" = none) (g1 : mg "MAX_PARAMETERS" = some (.int 3 t1)) :
    FnOk P w K mg base CX0 (k + 1) f fd ["value"] (spCount K) := by
  refine F.ok scCount (fun vs H Q E h => ?_) (fun cdv A outer s H vs Q E hr h => ?_)
  · obtain ⟨i, rfl, _⟩ := h
    rfl
  · obtain ⟨i, rfl, fin⟩ := h
    refine ⟨_, pss_one (ps_ret (pe_and (pe_callB call_isi (by rfl) mi (by decide +kernel) (pa_cons (pv 0)
          (pa_cons (pe_bltn (v := .ty "int") (by rfl) mI (by decide +kernel : bootBuiltins "int" = some (.type "int")) rfl) pa_nil)))
        (pe_and (pe_not (pe_callB call_isi (by rfl) mi (by decide +kernel) (pa_cons (pv 0)
          (pa_cons (pe_bltn (v := .ty "bool") (by rfl) mB (by decide +kernel : bootBuiltins "bool" = some (.type "bool")) rfl) pa_nil))))
        (pe_one (pe_chain op_le op_le pe_int (pv 0) (pe_glob (v := .int 3) (by rfl) g1 ⟨_, rfl⟩)))))), ?_⟩
    refine ⟨.int i, rfl, .int i, .ty "int", _, _, true, rfl, .ty "int", .base (.int i), kit_ty (by decide +kernel : kitB "int" "int" = some true), true, rfl, iteT
        ⟨.int i, rfl, .int i, .ty "bool", _, _, false, rfl, .ty "bool", .base (.int i), kit_ty (by decide +kernel : kitB "int" "bool" = some false), false, rfl, true, rfl, iteT ?_⟩⟩
    refine ⟨.int i, rfl, _, _, rfl, rfl, _, rfl, ite2 (fun e => ?_) (fun e => ?_)⟩
    · refine ⟨_, _, rfl, rfl, ?_⟩
      rw [e, Bool.true_and] at fin
      exact fin
    · rw [Bool.eq_false_iff.mpr e, Bool.false_and] at fin
      exact fin
def spArg (K : PySem.W.Frag) : Sp := fun vs H Q _ => ∃ (v : V) (nd : Bool) (d : PyData) (n : Int), vs = [v, .int n] ∧ Sh K nd H v d ∧ (∀ x, v = .str x → x.length ≤ 10000) ∧ ∀ H', Same H H' → Q (.bl (argD n d)) H'
theorem ok_isarg {f fN : Addr} {fd fdN : FuncData} {k : Nat} (F : Fun K "is_argument" "is_argument" sIsArg f fd)
    (FN : Fun K "is_name" "is_name" sIsName fN fdN) (bN : Binds K fdN ["value"] []) (gN : mg "is_name" = some (.ref fN))
    (GN : FnOk P w K mg base CX0 (k + 1) fN fdN ["value"] (spName K))
    (mi : mg "isinstance" = none) (mI : mg "int" = none) (mB : mg "bool" = none) :
    FnOk P w K mg base CX0 (k + 2) f fd ["value", "count"] (spArg K) := by
  refine F.ok scIsArg (fun vs H Q E h => ?_) (fun cdv A outer s H vs Q E hr h => ?_)
  · obtain ⟨v, nd, d, n, rfl, _⟩ := h
    rfl
  · obtain ⟨v, nd, d, n, rfl, sh, hv, fin⟩ := h
    refine ⟨_, pss_cons (ps_if (PW.pt (pw_and (pt_val (pe_callB call_isi (by rfl) mi (by decide +kernel) (pa_cons (pv 0)
          (pa_cons (pe_bltn (v := .ty "int") (by rfl) mI (by decide +kernel : bootBuiltins "int" = some (.type "int")) rfl) pa_nil))))
        (pw_and1 (pt_not (pt_val (pe_callB call_isi (by rfl) mi (by decide +kernel) (pa_cons (pv 0)
          (pa_cons (pe_bltn (v := .ty "bool") (by rfl) mB (by decide +kernel : bootBuiltins "bool" = some (.type "bool")) rfl) pa_nil))))))))
        (pss_one (ps_ret (pe_chain op_le op_lt pe_int (pv 0) (pv 1)))) pss_nil)
      (pss_one (ps_ret (pe_call GN hr (by rfl) gN FN.kp bN .nil pass0 (pa_cons (pv 0) pa_nil)))), ?_⟩
    have last : argD n d = nameV v → (tRet (tCall (spName K) [] E (tCons (tVar 0) tNil))) { nx := fun _ H' => Q .non H', rt := Q } (start ["value", "count"] [v, .int n]) H := by
      intro e
      refine ⟨v, rfl, v, nd, d, rfl, sh, hv, fun H1 s1 => ?_⟩
      have := fin H1 s1
      rw [e] at this
      exact this
    refine ⟨v, rfl, v, .ty "int", _, _, isInt d, rfl, .ty "int", sh.tyIs, kit_ty (kit_int d), _, rfl, ?_⟩
    cases sh with
    | int i =>
      refine iteT ⟨.int i, rfl, .int i, .ty "bool", _, _, false, rfl, .ty "bool", .base (.int i), kit_ty (by decide +kernel : kitB "int" "bool" = some false), false, rfl, iteT ?_⟩
      have pe : argD n (.int i) = (decide (0 ≤ i) && decide (i < n)) := rfl
      rw [pe] at fin
      refine ⟨.int i, rfl, _, _, rfl, rfl, _, rfl, ite2 (fun e => ?_) (fun e => ?_)⟩
      · refine ⟨.int n, rfl, _, _, rfl, rfl, ?_⟩
        rw [e, Bool.true_and] at fin
        exact fin _ (Same.refl _)
      · rw [Bool.eq_false_iff.mpr e, Bool.false_and] at fin
        exact fin _ (Same.refl _)
    | bl b => exact iteT ⟨.bl b, rfl, .bl b, .ty "bool", _, _, true, rfl, .ty "bool", .base (.bl b), kit_ty (by decide +kernel : kitB "bool" "bool" = some true), true, rfl, iteF (last rfl)⟩
    | non => exact iteF (last rfl)
    | str x => exact iteF (last rfl)
    | lst h1 h2 h3 => exact iteF (last rfl)
    | tup h1 h2 => exact iteF (last rfl)
    | dict h0 h1 h2 h3 => exact iteF (last rfl)
end
end Lw
namespace Lw
open PySem PySem.Spec PyProof.Rows L2 Kv
theorem len_dec {n : Nat} {k : Nat} : decide ((k : Int) ≤ (n : Int)) = decide (k ≤ n) := by
  by_cases z : k ≤ n
  · rw [decide_eq_true z, decide_eq_true (by omega : (k : Int) ≤ (n : Int))]
  · rw [decide_eq_false z, decide_eq_false (by omega : ¬ (k : Int) ≤ (n : Int))]
section
variable {P : Program} {w : World} {K : PySem.W.Frag} {mg : Str → Option Value} {base : Heap}
def spArgs (K : PySem.W.Frag) : Sp := fun vs H Q _ => ∃ (v : V) (nd : Bool) (d : PyData) (n : Int), vs = [v, .int n] ∧ Sh K nd H v d ∧ Fit 9000 20 d ∧ ∀ H', Same H H' → Q (.bl (argsD n d)) H'
theorem ok_areargs {f fC fA : Addr} {fd fdC fdA : FuncData} {k : Nat} (F : Fun K "are_arguments" "are_arguments" sAreArgs f fd)
    (FC : Fun K "is_parameter_count" "is_parameter_count" sIsCount fC fdC) (bC : Binds K fdC ["value"] []) (gC : mg "is_parameter_count" = some (.ref fC))
    (FA : Fun K "is_argument" "is_argument" sIsArg fA fdA) (bA : Binds K fdA ["value", "count"] []) (gA : mg "is_argument" = some (.ref fA))
    (GC : FnOk P w K mg base CX0 (k + 1) fC fdC ["value"] (spCount K)) (GA : FnOk P w K mg base CX0 (k + 2) fA fdA ["value", "count"] (spArg K))
    (mi : mg "isinstance" = none) (mT : mg "tuple" = none) (ml : mg "len" = none) (ma : mg "all" = none) :
    FnOk P w K mg base CX0 (k + 3) f fd ["value", "count"] (spArgs K) := by
  refine F.ok scAreArgs (fun vs H Q E h => ?_) (fun cdv A outer s H vs Q E hr h => ?_)
  · obtain ⟨v, nd, d, n, rfl, _⟩ := h
    rfl
  · obtain ⟨v, nd, d, n, rfl, sh, hf, fin⟩ := h
    have hrC := hr.mono (by omega : k + 1 ≤ k + 2)
    refine ⟨_, pss_cons (ps_if (PW.pt (pw_or (pt_not (pt_val (pe_callB call_isi (by rfl) mi (by decide +kernel) (pa_cons (pv 0)
          (pa_cons (pe_bltn (v := .ty "tuple") (by rfl) mT (by decide +kernel : bootBuiltins "tuple" = some (.type "tuple")) rfl) pa_nil)))))
          (pw_or1 (pt_not (pt_val (pe_call GC hrC (by rfl) gC FC.kp bC .nil pass0 (pa_cons (pe_callB call_len_seq (by rfl) ml PySem.boot_len (pa_cons (pv 0) pa_nil)) pa_nil))))))) (pss_one (ps_ret pe_bl)) pss_nil)
      (pss_one (ps_ret (pe_callB (cr_all rfl) (by rfl) ma (by decide +kernel) (pa_cons
          (pe_lc (own := [("item", 2)]) (g := gName 2) (tt := tYes) rfl scAreArgs.nd (pi_tup (pv 0))
            (blkOk_by (own := [("item", 2)]) (N := NAreArgs) (sc := defScope sAreArgs) (by decide +kernel))
            (fun _ _ _ _ _ => pg_name (i := 2) scAreArgs.nd rfl (Or.inl rfl)) (fun _ _ _ _ _ => pts_nil)
            (fun _ _ _ _ _ => pe_call GA hr (by rfl) gA FA.kp bA .nil pass0 (pa_cons (pv 2) (pa_cons (pv 1) pa_nil)))) pa_nil)))), ?_⟩
    refine ⟨v, rfl, v, .ty "tuple", _, _, isTup d, rfl, .ty "tuple", sh.tyIs, kit_ty (kit_tup d), _, rfl, ?_⟩
    cases sh with
    | non => exact iteT (fin H (Same.refl _))
    | bl b => exact iteT (fin H (Same.refl _))
    | int i => exact iteT (fin H (Same.refl _))
    | str y => exact iteT (fin H (Same.refl _))
    | lst h1 h2 h3 => exact iteT (fin H (Same.refl _))
    | dict h0 h1 h2 h3 => exact iteT (fin H (Same.refl _))
    | @tup a xs ds h1 h2 =>
      have hl := h2.length
      refine iteF ?_
      refine ⟨.ref a, rfl, a, xs, rfl, .inr h1, _, rfl, ?_⟩
      have ce : (decide ((1 : Int) ≤ (xs.length : Nat)) && decide (((xs.length : Nat) : Int) ≤ 3)) = (decide (1 ≤ ds.length) && decide (ds.length ≤ 3)) := by
        rw [hl]
        exact congr (congrArg and (len_dec (k := 1))) (by
          by_cases z : ds.length ≤ 3
          · rw [decide_eq_true z, decide_eq_true (by omega : ((ds.length : Nat) : Int) ≤ 3)]
          · rw [decide_eq_false z, decide_eq_false (by omega : ¬ ((ds.length : Nat) : Int) ≤ 3)])
      rw [ce]
      have pe : argsD n (.tuple ds) = ((decide (1 ≤ ds.length) && decide (ds.length ≤ 3)) && ds.all (argD n)) := rfl
      refine ⟨_, rfl, ?_⟩
      cases cc : (decide (1 ≤ ds.length) && decide (ds.length ≤ 3)) with
      | false =>
        have := fin H (Same.refl _)
        rw [pe, cc, Bool.false_and] at this
        exact iteT this
      | true =>
        have cc2 : ds.length ≤ 3 := of_decide_eq_true (Bool.and_eq_true_iff.mp cc).2
        refine iteF ?_
        refine ⟨.ref a, rfl, a, rfl, ⟨_, h1⟩, fun D nD => ?_⟩
        refine lc_tup (xs := xs) (fun i H3 => H3 D = some (.lst ((ds.take i).map fun d => .bl (argD n d))) ∧ Same H H3) ⟨upd_same, same_new nD⟩ (fun i H3 _ hP => sqT_same h1 hP.2) (fun i v H3 hv hP => ?_) (fun H3 hP => ?_)
        · obtain ⟨e1, s3⟩ := hP
          obtain ⟨di, hdi, shi⟩ := shGet h2 hv
          have fi := fit_all (fit_tup hf) hdi
          refine ⟨rfl, v, rfl, .int n, rfl, v, nd, di, n, rfl, shi.same s3, fit_str shi fi, fun H4 s4 => ?_⟩
          refine ⟨_, s4 _ _ e1, ?_, ?_, ?_⟩
          · rw [List.length_map, List.length_take]
            exact sz1 (by omega)
          · rw [upd_same, List.take_add_one, hdi, List.map_append]
            rfl
          · intro b o hb
            rw [upd_ne (ne_of_none hb nD)]
            exact s4 _ _ (s3 _ _ hb)
        · obtain ⟨e1, s3⟩ := hP
          have tk : ds.take xs.length = ds := List.take_of_length_le (by omega)
          rw [tk] at e1
          refine ⟨D, ds.map (argD n), rfl, .inl (.inl (by rw [e1, List.map_map]; rfl)), ?_⟩
          rw [List.all_map]
          have := fin _ s3
          rw [pe, cc, Bool.true_and] at this
          exact this
def spStepD (K : PySem.W.Frag) : Sp := fun vs H Q _ => ∃ (v : V) (nd : Bool) (d : PyData) (n : Int), vs = [v, .int n] ∧ Sh K nd H v d ∧ Fit 9000 20 d ∧ ∀ H', Same H H' → Q (.bl (stepD n d)) H'
theorem ok_isstep {f fN fA TN : Addr} {fd fdN fdA : FuncData} {k : Nat} {t1 t2 : Tok} (F : Fun K "is_step" "is_step" sIsStep f fd)
    (FN : Fun K "is_name" "is_name" sIsName fN fdN) (bN : Binds K fdN ["value"] []) (gN : mg "is_name" = some (.ref fN))
    (FA : Fun K "are_arguments" "are_arguments" sAreArgs fA fdA) (bA : Binds K fdA ["value", "count"] []) (gA : mg "are_arguments" = some (.ref fA))
    (GN : FnOk P w K mg base CX0 (k + 1) fN fdN ["value"] (spName K)) (GA : FnOk P w K mg base CX0 (k + 3) fA fdA ["value", "count"] (spArgs K))
    (mi : mg "isinstance" = none) (mT : mg "tuple" = none) (ml : mg "len" = none) (gs : mg "SAY_WORD" = some (.str "say" t1)) (gc : mg "CALL_WORD" = some (.str "call" t2))
    (gx : mg "NEXT_STEP" = some (.ref TN)) (hx : SqT K (fun _ => none) TN [.str "next"]) :
    FnOk P w K mg base CX0 (k + 4) f fd ["value", "count"] (spStepD K) := by
  refine F.ok scIsStep (fun vs H Q E h => ?_) (fun cdv A outer s H vs Q E hr h => ?_)
  · obtain ⟨v, nd, d, n, rfl, _⟩ := h
    rfl
  · obtain ⟨v, nd, d, n, rfl, sh, hf, fin⟩ := h
    have hrN := hr.mono (by omega : k + 1 ≤ k + 3)
    have hu := hu_of hr
    refine ⟨_, pss_cons (ps_if (pt_not (pt_val (pe_callB call_isi (by rfl) mi (by decide +kernel) (pa_cons (pv 0)
          (pa_cons (pe_bltn (v := .ty "tuple") (by rfl) mT (by decide +kernel : bootBuiltins "tuple" = some (.type "tuple")) rfl) pa_nil))))) (pss_one (ps_ret pe_bl)) pss_nil)
      (pss_cons (ps_if (pt_cmpR op_eq (pe_callB call_len_seq (by rfl) ml PySem.boot_len (pa_cons (pv 0) pa_nil)) pe_int (nomark _))
        (pss_one (ps_ret (pe_and (pe_cmpR (op_eqTx (Nat.lt_of_succ_lt hu)) (pe_ix ix_tup (pv 0) pe_int (fun _ _ => rfl)) (pe_glob (v := .str "say") (by rfl) gs ⟨_, rfl⟩) (nomark _))
          (pe_one (pe_call GN hrN (by rfl) gN FN.kp bN .nil pass0 (pa_cons (pe_ix ix_tup (pv 0) pe_int (fun _ _ => rfl)) pa_nil)))))) pss_nil)
      (pss_cons (ps_if (pt_cmpR op_eq (pe_callB call_len_seq (by rfl) ml PySem.boot_len (pa_cons (pv 0) pa_nil)) pe_int (nomark _))
        (pss_one (ps_ret (pe_and (pe_cmpR (op_eqTx (Nat.lt_of_succ_lt hu)) (pe_ix ix_tup (pv 0) pe_int (fun _ _ => rfl)) (pe_glob (v := .str "call") (by rfl) gc ⟨_, rfl⟩) (nomark _))
          (pe_and (pe_call GN hrN (by rfl) gN FN.kp bN .nil pass0 (pa_cons (pe_ix ix_tup (pv 0) pe_int (fun _ _ => rfl)) pa_nil))
          (pe_one (pe_call GA hr (by rfl) gA FA.kp bA .nil pass0 (pa_cons (pe_ix ix_tup (pv 0) pe_int (fun _ _ => rfl)) (pa_cons (pv 1) pa_nil)))))))) pss_nil)
      (pss_one (ps_ret (pe_cmpR (op_eqTT hu) (pv 0) (pe_glob (v := .ref TN) (by rfl) gx rfl) (nomark _)))))), ?_⟩
    refine ⟨v, rfl, v, .ty "tuple", _, _, isTup d, rfl, .ty "tuple", sh.tyIs, kit_ty (kit_tup d), _, rfl, ?_⟩
    cases sh with
    | non => exact iteT (fin H (Same.refl _))
    | bl b => exact iteT (fin H (Same.refl _))
    | int i => exact iteT (fin H (Same.refl _))
    | str y => exact iteT (fin H (Same.refl _))
    | lst h1 h2 h3 => exact iteT (fin H (Same.refl _))
    | dict h0 h1 h2 h3 => exact iteT (fin H (Same.refl _))
    | @tup a xs ds h1 h2 =>
      have hl := h2.length
      refine iteF ?_
      refine ⟨.ref a, rfl, a, xs, rfl, .inr h1, rfl, _, rfl, ite2 (fun e => ?_) (fun e => ?_)⟩
      · have e2 : xs.length = 2 := by
          have := of_decide_eq_true e
          injection this with this
          omega
        match xs, ds, h2, e2, hl with
        | [x0, x1], [d0, d1], .cons sh0 (.cons sh1 .nil), _, _ =>
          have f0 := fit_all (i := 0) (fit_tup hf) rfl
          have f1 := fit_all (i := 1) (fit_tup hf) rfl
          have pe : stepD n (.tuple [d0, d1]) = (strEq d0 "say" && wordD d1) := rfl
          rw [pe] at fin
          refine ⟨.ref a, rfl, a, _, 0, x0, rfl, rfl, h1, atI_nat (j := 0) rfl, nd, d0, _, sh0, rfl, _, rfl, ?_⟩
          cases cc : strEq d0 "say" with
          | false =>
            rw [cc, Bool.false_and] at fin
            exact iteF (fin H (Same.refl _))
          | true =>
            rw [cc, Bool.true_and] at fin
            refine iteT ⟨.ref a, rfl, a, _, 1, x1, rfl, rfl, h1, atI_nat (j := 1) rfl, x1, nd, d1, rfl, sh1, fit_str sh1 f1, fun H1 s1 => ?_⟩
            rw [word_name sh1]
            exact fin _ s1
      · have e2 : xs.length ≠ 2 := by
          intro z
          rw [z] at e
          exact e (by decide)
        refine ⟨.ref a, rfl, a, xs, rfl, .inr h1, rfl, _, rfl, ite2 (fun e => ?_) (fun e => ?_)⟩
        · have e3 : xs.length = 3 := by
            have := of_decide_eq_true e
            injection this with this
            omega
          match xs, ds, h2, e3, hl with
          | [x0, x1, x2], [d0, d1, d2], .cons sh0 (.cons sh1 (.cons sh2 .nil)), _, _ =>
            have f1 := fit_all (i := 1) (fit_tup hf) rfl
            have f2 := fit_all (i := 2) (fit_tup hf) rfl
            have pe : stepD n (.tuple [d0, d1, d2]) = (strEq d0 "call" && (wordD d1 && argsD n d2)) := rfl
            rw [pe] at fin
            refine ⟨.ref a, rfl, a, _, 0, x0, rfl, rfl, h1, atI_nat (j := 0) rfl, nd, d0, _, sh0, rfl, _, rfl, ?_⟩
            cases cc : strEq d0 "call" with
            | false =>
              rw [cc, Bool.false_and] at fin
              exact iteF (fin H (Same.refl _))
            | true =>
              rw [cc, Bool.true_and] at fin
              refine iteT ⟨.ref a, rfl, a, _, 1, x1, rfl, rfl, h1, atI_nat (j := 1) rfl, x1, nd, d1, rfl, sh1, fit_str sh1 f1, fun H1 s1 => ?_⟩
              rw [word_name sh1]
              refine ⟨_, rfl, ?_⟩
              cases c2 : wordD d1 with
              | false =>
                rw [c2, Bool.false_and] at fin
                exact iteF (fin H1 s1)
              | true =>
                rw [c2, Bool.true_and] at fin
                refine iteT ⟨.ref a, rfl, a, _, 2, x2, rfl, rfl, sqT_same h1 s1, atI_nat (j := 2) rfl, .int n, rfl, x2, nd, d2, n, rfl, sh2.same s1, f2, fun H2 s2 => ?_⟩
                exact fin _ (s1.trans s2)
        · have e3 : xs.length ≠ 3 := by
            intro z
            rw [z] at e
            exact e (by decide)
          have pe : stepD n (.tuple ds) = tupEq ds ["next"] := by
            match ds, hl with
            | [], _ => rfl
            | [_], _ => rfl
            | [_, _], z => exact absurd z e2
            | [_, _, _], z => exact absurd z e3
            | _ :: _ :: _ :: _ :: _, _ => rfl
          rw [pe] at fin
          exact ⟨.ref a, rfl, nd, a, TN, xs, ds, ["next"], rfl, h1, h2, rfl, sqT_same hx (fun _ _ e => nomatch e), fin _ (Same.refl _)⟩
end
end Lw
namespace Lw
open PySem PySem.Spec PyProof.Rows L2 Kv
section
variable {P : Program} {w : World} {K : PySem.W.Frag} {mg : Str → Option Value} {base : Heap}
/-- the values whose data are told by q -/
def pick (q : PyData → Bool) : List V → List PyData → List V
  | v :: vs, d :: ds => if q d then v :: pick q vs ds else pick q vs ds
  | _, _ => []
theorem pick_len (q : PyData → Bool) : ∀ (vs : List V) (ds : List PyData), vs.length = ds.length → (pick q vs ds).length = (ds.filter q).length
  | [], [], _ => rfl
  | v :: vs, d :: ds, h => by
    have ih := pick_len q vs ds (Nat.succ.inj h)
    unfold pick
    by_cases c : q d = true
    · rw [if_pos c, List.filter_cons_of_pos c, List.length_cons, List.length_cons, ih]
    · rw [if_neg c, List.filter_cons_of_neg c, ih]
theorem pick_snoc (q : PyData → Bool) : ∀ {vs : List V} {ds : List PyData} {v : V} {d : PyData}, vs.length = ds.length → pick q (vs ++ [v]) (ds ++ [d]) = pick q vs ds ++ (if q d then [v] else [])
  | [], [], v, d, _ => by
    by_cases c : q d = true
    · simp [pick, c]
    · simp [pick, c]
  | x :: vs, y :: ds, v, d, h => by
    have ih := pick_snoc q (vs := vs) (ds := ds) (v := v) (d := d) (Nat.succ.inj h)
    show pick q (x :: (vs ++ [v])) (y :: (ds ++ [d])) = _
    unfold pick
    by_cases c : q y = true
    · rw [if_pos c, if_pos c, ih, List.cons_append]
    · rw [if_neg c, if_neg c, ih]
def spBody (K : PySem.W.Frag) : Sp := fun vs H Q _ => ∃ (v : V) (nd : Bool) (d : PyData) (n : Int), vs = [v, .int n] ∧ Sh K nd H v d ∧ Fit 9000 20 d ∧ ∀ H', Same H H' → Q (.bl (bodyD n d)) H'
theorem ok_isbody {f fS TN : Addr} {fd fdS : FuncData} {k : Nat} (F : Fun K "is_body" "is_body" sIsBody f fd)
    (FS : Fun K "is_step" "is_step" sIsStep fS fdS) (bS : Binds K fdS ["value", "count"] []) (gS : mg "is_step" = some (.ref fS))
    (GS : FnOk P w K mg base CX0 (k + 4) fS fdS ["value", "count"] (spStepD K))
    (mi : mg "isinstance" = none) (mT : mg "tuple" = none) (ml : mg "len" = none) (ma : mg "all" = none)
    (gx : mg "NEXT_STEP" = some (.ref TN)) (hx : SqT K (fun _ => none) TN [.str "next"]) :
    FnOk P w K mg base CX0 (k + 5) f fd ["value", "count"] (spBody K) := by
  refine F.ok scIsBody (fun vs H Q E h => ?_) (fun cdv A outer s H vs Q E hr h => ?_)
  · obtain ⟨v, nd, d, n, rfl, _⟩ := h
    rfl
  · obtain ⟨v, nd, d, n, rfl, sh, hf, fin⟩ := h
    have hu := hu_of hr
    refine ⟨_, pss_cons (ps_if (PW.pt (pw_or (pt_not (pt_val (pe_callB call_isi (by rfl) mi (by decide +kernel) (pa_cons (pv 0)
          (pa_cons (pe_bltn (v := .ty "tuple") (by rfl) mT (by decide +kernel : bootBuiltins "tuple" = some (.type "tuple")) rfl) pa_nil)))))
          (pw_or1 (pt_not (pt_val (pe_callB (cr_all rfl) (by rfl) ma (by decide +kernel) (pa_cons
            (pe_lc (own := [("step", 2)]) (g := gName 2) (tt := tYes) rfl scIsBody.nd (pi_tup (pv 0))
              (blkOk_by (own := [("step", 2)]) (N := NIsBody) (sc := defScope sIsBody) (by decide +kernel))
              (fun _ _ _ _ _ => pg_name (i := 2) scIsBody.nd rfl (Or.inl rfl)) (fun _ _ _ _ _ => pts_nil)
              (fun _ _ _ _ _ => pe_call GS hr (by rfl) gS FS.kp bS .nil pass0 (pa_cons (pv 2) (pa_cons (pv 1) pa_nil)))) pa_nil))))))) (pss_one (ps_ret pe_bl)) pss_nil)
      (pss_one (ps_ret (pe_cmpR op_le (pe_callB call_len_seq (by rfl) ml PySem.boot_len (pa_cons
          (pe_lc (own := [("step", 2)]) (g := gName 2) (tt := tTest (tOp (rEqTT K) (tVar 2) (tC (.ref TN)))) (te := tVar 2) rfl scIsBody.nd (pi_tup (pv 0))
            (blkOk_by (own := [("step", 2)]) (N := NIsBody) (sc := defScope sIsBody) (by decide +kernel))
            (fun _ _ _ _ _ => pg_name (i := 2) scIsBody.nd rfl (Or.inl rfl)) (fun _ _ _ _ _ => pts_one (pt_cmpR (op_eqTT hu) (pv 2) (pe_glob (v := .ref TN) (by rfl) gx rfl) (nomark _)))
            (fun _ _ _ _ _ => pv 2)) pa_nil)) pe_int (nomark _)))), ?_⟩
    refine ⟨v, rfl, v, .ty "tuple", _, _, isTup d, rfl, .ty "tuple", sh.tyIs, kit_ty (kit_tup d), _, rfl, ?_⟩
    cases sh with
    | non => exact iteT (fin H (Same.refl _))
    | bl b => exact iteT (fin H (Same.refl _))
    | int i => exact iteT (fin H (Same.refl _))
    | str y => exact iteT (fin H (Same.refl _))
    | lst h1 h2 h3 => exact iteT (fin H (Same.refl _))
    | dict h0 h1 h2 h3 => exact iteT (fin H (Same.refl _))
    | @tup a xs ds h1 h2 =>
      have hl := h2.length
      have pe : bodyD n (.tuple ds) = (ds.all (stepD n) && decide ((ds.filter nextD).length ≤ 1)) := rfl
      rw [pe] at fin
      have dl : ds.length ≤ 9000 := fit_len (fit_tup hf)
      refine iteF ?_
      refine ⟨.ref a, rfl, a, rfl, ⟨_, h1⟩, fun D nD => ?_⟩
      refine lc_tup (xs := xs) (fun i H3 => H3 D = some (.lst ((ds.take i).map fun d => .bl (stepD n d))) ∧ Same H H3) ⟨upd_same, same_new nD⟩ (fun i H3 _ hP => sqT_same h1 hP.2) (fun i v H3 hv hP => ?_) (fun H3 hP => ?_)
      · obtain ⟨e1, s3⟩ := hP
        obtain ⟨di, hdi, shi⟩ := shGet h2 hv
        have fi := fit_all (fit_tup hf) hdi
        refine ⟨rfl, v, rfl, .int n, rfl, v, nd, di, n, rfl, shi.same s3, fi, fun H4 s4 => ?_⟩
        refine ⟨_, s4 _ _ e1, ?_, ?_, ?_⟩
        · rw [List.length_map, List.length_take]
          exact Nat.lt_of_le_of_lt (by omega : _ ≤ 9000) (by decide)
        · rw [upd_same, List.take_add_one, hdi, List.map_append]
          rfl
        · intro b o hb
          rw [upd_ne (ne_of_none hb nD)]
          exact s4 _ _ (s3 _ _ hb)
      · obtain ⟨e1, s3⟩ := hP
        have tk : ds.take xs.length = ds := List.take_of_length_le (by omega)
        rw [tk] at e1
        refine ⟨D, ds.map (stepD n), rfl, .inl (.inl (by rw [e1, List.map_map]; rfl)), _, rfl, ?_⟩
        rw [List.all_map]
        cases cc : ds.all (stepD n) with
        | false =>
          rw [cc, Bool.false_and] at fin
          rw [show ds.all (id ∘ stepD n) = ds.all (stepD n) from rfl, cc]
          exact iteT (fin _ s3)
        | true =>
          rw [cc, Bool.true_and] at fin
          rw [show ds.all (id ∘ stepD n) = ds.all (stepD n) from rfl, cc]
          refine iteF ?_
          refine ⟨.ref a, rfl, a, rfl, ⟨_, sqT_same h1 s3⟩, fun D2 nD2 => ?_⟩
          refine lc_tup (xs := xs) (fun i H4 => H4 = upd H3 D2 (.lst (pick nextD (xs.take i) (ds.take i)))) rfl (fun i H4 _ hP => ?_) (fun i v H4 hv hP => ?_) (fun H4 hP => ?_)
          · subst hP
            exact sqT_same h1 (s3.trans (same_new nD2))
          · subst hP
            obtain ⟨di, hdi, shi⟩ := shGet h2 hv
            have s4 := s3.trans (same_new (o := .lst (pick nextD (xs.take i) (ds.take i))) nD2)
            have ok : stepD n di = true := List.all_eq_true.mp cc di (List.mem_of_getElem? hdi)
            cases shi with
            | @tup b ys es k1 k2 =>
              refine ⟨rfl, .ref b, rfl, nd, b, TN, ys, es, ["next"], rfl, sqT_same k1 s4, k2.same s4, rfl, sqT_same hx (fun _ _ e => nomatch e), _, rfl, ?_⟩
              have sn : pick nextD (xs.take (i + 1)) (ds.take (i + 1)) = pick nextD (xs.take i) (ds.take i) ++ (if nextD (.tuple es) then [V.ref b] else []) := by
                rw [List.take_add_one, List.take_add_one, hv, hdi]
                exact pick_snoc nextD (by rw [List.length_take, List.length_take, hl])
              have pl : (pick nextD (xs.take i) (ds.take i)).length < sizeLine := by
                rw [pick_len _ _ _ (by rw [List.length_take, List.length_take, hl])]
                have := List.length_filter_le nextD (ds.take i)
                rw [List.length_take] at this
                exact Nat.lt_of_le_of_lt (by omega : _ ≤ 9000) (by decide)
              cases c3 : tupEq es ["next"] with
              | true =>
                refine iteT ⟨.ref b, rfl, _, upd_same, pl, ?_⟩
                rw [upd_upd, sn]
                have : nextD (.tuple es) = true := c3
                rw [this, if_pos rfl]
              | false =>
                refine iteF ?_
                show _ = upd _ _ _
                rw [sn]
                have : nextD (.tuple es) = false := c3
                rw [this, if_neg (by decide), List.append_nil]
            | non => cases ok
            | bl b => cases ok
            | int i => cases ok
            | str y => cases ok
            | lst k1 k2 k3 => cases ok
            | dict k0 k1 k2 k3 => cases ok
          · subst hP
            have tx : xs.take xs.length = xs := List.take_of_length_le (Nat.le_refl _)
            rw [tk, tx]
            refine ⟨D2, _, rfl, .inl (.inl (.inl upd_same)), _, _, rfl, rfl, ?_⟩
            rw [pick_len _ _ _ hl]
            have := fin _ (s3.trans (same_new (o := .lst (pick nextD xs ds)) nD2))
            have e : decide (((ds.filter nextD).length : Int) ≤ 1) = decide ((ds.filter nextD).length ≤ 1) := by
              by_cases z : (ds.filter nextD).length ≤ 1
              · rw [decide_eq_true z, decide_eq_true (by omega : ((ds.filter nextD).length : Int) ≤ 1)]
              · rw [decide_eq_false z, decide_eq_false (by omega : ¬ ((ds.filter nextD).length : Int) ≤ 1)]
            rw [← e] at this
            exact this
end
end Lw
/-! What the law itself says of steps and bodies. -/
namespace Lw
open PySem PySem.Spec PyProof.Rows L2 Kv
theorem scLWord : FnScope ["_law_thing", "_law_letter"] ["_law_thing"] (defScope sLWord) :=
  ⟨rfl, rfl, rfl, by decide +kernel, rfl, by decide +kernel, by decide +kernel⟩
theorem scLArg : FnScope ["_law_thing", "_law_amount"] ["_law_thing", "_law_amount"] (defScope sLArg) :=
  ⟨rfl, rfl, rfl, by decide +kernel, rfl, by decide +kernel, by decide +kernel⟩
abbrev NLStep : List Str := ["_law_thing", "_law_amount", "_law_one"]
theorem scLStep : FnScope NLStep ["_law_thing", "_law_amount"] (defScope sLStep) :=
  ⟨rfl, rfl, rfl, by decide +kernel, rfl, by decide +kernel, by decide +kernel⟩
section
variable {P : Program} {w : World} {K : PySem.W.Frag} {mg : Str → Option Value} {base : Heap}
theorem ok_lword {f : Addr} {fd : FuncData} {k : Nat} (F : Fun K "_law_is_word" "_law_is_word" sLWord f fd)
    (mi : mg "isinstance" = none) (ms : mg "str" = none) (ml : mg "len" = none) (ma : mg "all" = none) :
    FnOk P w K mg base CX0 (k + 1) f fd ["_law_thing"] (spName K) := by
  refine F.ok scLWord (fun vs H Q E h => ?_) (fun cdv A outer s H vs Q E hr h => ?_)
  · obtain ⟨a, _, _, rfl, _⟩ := h
    rfl
  · obtain ⟨v, nd, d, rfl, sh, hv, q⟩ := h
    refine ⟨_, pss_cons (ps_if (PW.pt (pw_or (pt_not (pt_val (pe_callB call_isi (by rfl) mi (by decide +kernel) (pa_cons (pv 0)
          (pa_cons (pe_bltn (v := .ty "str") (by rfl) ms (by decide +kernel : bootBuiltins "str" = some (.type "str")) rfl) pa_nil)))))
          (pw_or1 (pt_not (pt_chain op_lt op_lt pe_int (pe_callB call_len_str (by rfl) ml PySem.boot_len (pa_cons (pv 0) pa_nil)) pe_int))))) (pss_one (ps_ret pe_bl)) pss_nil)
      (pss_one (ps_ret (pe_callB (cr_all rfl) (by rfl) ma (by decide +kernel) (pa_cons
          (pe_lc (own := [("_law_letter", 1)]) (g := gName 1) (tt := tYes) rfl scLWord.nd (pi_str (pv 0))
            (blkOk_by (own := [("_law_letter", 1)]) (N := ["_law_thing", "_law_letter"]) (sc := defScope sLWord) (by decide +kernel))
            (fun _ _ _ _ _ => pg_name (i := 1) scLWord.nd rfl (Or.inl rfl)) (fun _ _ _ _ _ => pts_nil)
            (fun _ _ _ _ _ => pe_cmpR op_in_sign (pv 1) pe_str rfl)) pa_nil)))), ?_⟩
    obtain ⟨T, ty, hT⟩ := sh.ty
    rcases hT with ⟨x, rfl, rfl⟩ | ⟨hne, hT⟩
    · have hx := hv x rfl
      have hxl : x.length ≤ sizeLine := szle hx
      refine ⟨.str x, rfl, .str x, .ty "str", _, _, true, rfl, .ty "str", ty, kit_ty (by decide +kernel), true, rfl, iteF ?_⟩
      refine ⟨.str x, rfl, x, rfl, hxl, _, _, rfl, rfl, _, rfl, ite2 (fun e => ?_) (fun e => ?_)⟩
      · have e1 : (0 : Int) < x.length := of_decide_eq_true e
        refine ⟨_, _, rfl, rfl, _, rfl, ?_⟩
        by_cases e2 : (x.length : Int) < 9
        · rw [decide_eq_true e2]
          refine iteF ?_
          refine ⟨.str x, rfl, x, rfl, fun D nD => ?_⟩
          refine lc_it walk_str (fun i H3 => H3 = upd H D (.lst ((x.cps.toList.take i).map fun c => .bl (inAz c)))) ?_ (fun _ _ _ _ => trivial) (fun i y H3 H4 hi hP hY => ?_) (fun H3 hP => ?_)
          · rfl
          · obtain ⟨rfl, c, hc, rfl⟩ := hY
            subst hP
            refine ⟨rfl, .str ⟨#[c]⟩, rfl, c, _, rfl, rfl, _, upd_same, ?_, ?_⟩
            · rw [List.length_map, List.length_take]
              exact sz1 (by
                have : i < x.length := hi
                omega)
            · have hc2 : x.cps.toList[i]? = some c := by
                rw [Array.getElem?_toList]
                exact hc
              rw [upd_upd, List.take_add_one, hc2, List.map_append]
              rfl
          · subst hP
            refine ⟨D, (x.cps.toList.take x.cps.size).map inAz, rfl, .inl (.inl ?_), ?_⟩
            · rw [upd_same, List.map_map]
              rfl
            · have e4 : x.cps.toList.take x.cps.size = x.cps.toList := List.take_of_length_le (by rw [Array.length_toList]; exact Nat.le_refl _)
              have e5 : ((x.cps.toList.take x.cps.size).map inAz).all id = nameV (.str x) := by
                rw [e4, List.all_map]
                show _ = ((decide (1 ≤ x.length) && decide (x.length ≤ 8)) && x.cps.toList.all inAz)
                rw [decide_eq_true (by omega : 1 ≤ x.length), decide_eq_true (by omega : x.length ≤ 8)]
                rfl
              rw [e5]
              exact q _ (same_new nD)
        · rw [decide_eq_false e2]
          have e5 : nameV (.str x) = false := by
            show ((decide (1 ≤ x.length) && decide (x.length ≤ 8)) && x.cps.toList.all inAz) = false
            rw [decide_eq_false (by omega : ¬ x.length ≤ 8), Bool.and_false, Bool.false_and]
          have := q H (Same.refl _)
          rw [e5] at this
          exact iteT this
      · have e1 : ¬ (0 : Int) < x.length := fun z => e (decide_eq_true z)
        have e5 : nameV (.str x) = false := by
          show ((decide (1 ≤ x.length) && decide (x.length ≤ 8)) && x.cps.toList.all inAz) = false
          rw [decide_eq_false (by omega : ¬ 1 ≤ x.length), Bool.false_and, Bool.false_and]
        have := q H (Same.refl _)
        rw [e5] at this
        exact ⟨false, rfl, iteT this⟩
    · have hk : kitB T "str" = some false := by
        rcases hT with rfl | rfl | rfl | rfl | rfl | rfl <;> decide +kernel
      have := q H (Same.refl _)
      rw [nameV_not hne] at this
      exact ⟨v, rfl, v, .ty "str", _, _, false, rfl, .ty "str", ty, kit_ty hk, false, rfl, iteT this⟩
theorem ok_larg {f fN : Addr} {fd fdN : FuncData} {k : Nat} (F : Fun K "_law_is_argument" "_law_is_argument" sLArg f fd)
    (FN : Fun K "_law_is_word" "_law_is_word" sLWord fN fdN) (bN : Binds K fdN ["_law_thing"] []) (gN : mg "_law_is_word" = some (.ref fN))
    (GN : FnOk P w K mg base CX0 (k + 1) fN fdN ["_law_thing"] (spName K))
    (mi : mg "isinstance" = none) (mI : mg "int" = none) (mB : mg "bool" = none) :
    FnOk P w K mg base CX0 (k + 2) f fd ["_law_thing", "_law_amount"] (spArg K) := by
  refine F.ok scLArg (fun vs H Q E h => ?_) (fun cdv A outer s H vs Q E hr h => ?_)
  · obtain ⟨v, nd, d, n, rfl, _⟩ := h
    rfl
  · obtain ⟨v, nd, d, n, rfl, sh, hv, fin⟩ := h
    refine ⟨_, pss_cons (ps_if (pt_val (pe_callB call_isi (by rfl) mi (by decide +kernel) (pa_cons (pv 0)
          (pa_cons (pe_bltn (v := .ty "bool") (by rfl) mB (by decide +kernel : bootBuiltins "bool" = some (.type "bool")) rfl) pa_nil))))
        (pss_one (ps_ret pe_bl)) pss_nil)
      (pss_one (ps_ret (pe_or (pe_call GN hr (by rfl) gN FN.kp bN .nil pass0 (pa_cons (pv 0) pa_nil))
        (pe_one (pe_and (pe_callB call_isi (by rfl) mi (by decide +kernel) (pa_cons (pv 0)
          (pa_cons (pe_bltn (v := .ty "int") (by rfl) mI (by decide +kernel : bootBuiltins "int" = some (.type "int")) rfl) pa_nil)))
          (pe_one (pe_chain op_le op_lt pe_int (pv 0) (pv 1)))))))), ?_⟩
    refine ⟨v, rfl, v, .ty "bool", _, _, isBool d, rfl, .ty "bool", sh.tyIs, kit_ty (kit_bool d), _, rfl, ?_⟩
    by_cases hb : isBool d = true
    · rw [hb]
      have : argD n d = false := by
        cases sh with
        | bl b => rfl
        | _ => cases hb
      rw [this] at fin
      exact iteT (fin _ (Same.refl _))
    · rw [Bool.eq_false_iff.mpr hb]
      refine iteF ?_
      refine ⟨v, rfl, v, nd, d, rfl, sh, hv, fun H1 s1 => ⟨_, rfl, ?_⟩⟩
      by_cases hw : nameV v = true
      · rw [hw]
        have : argD n d = true := by
          cases sh with
          | str x => exact hw
          | _ => cases hw
        rw [this] at fin
        exact iteT (fin _ s1)
      · rw [Bool.eq_false_iff.mpr hw]
        refine iteF ?_
        have sh1 := sh.same s1
        refine ⟨v, rfl, v, .ty "int", _, _, isInt d, rfl, .ty "int", sh1.tyIs, kit_ty (kit_int d), _, rfl, ?_⟩
        cases sh with
        | int i =>
          refine iteT ?_
          have pe : argD n (.int i) = (decide (0 ≤ i) && decide (i < n)) := rfl
          rw [pe] at fin
          refine ⟨.int i, rfl, _, _, rfl, rfl, _, rfl, ite2 (fun e => ?_) (fun e => ?_)⟩
          · refine ⟨.int n, rfl, _, _, rfl, rfl, ?_⟩
            rw [e, Bool.true_and] at fin
            exact fin _ s1
          · rw [Bool.eq_false_iff.mpr e, Bool.false_and] at fin
            exact fin _ s1
        | bl b => exact absurd rfl hb
        | non => exact iteF (fin _ s1)
        | str x =>
          have : argD n (.str x) = false := Bool.eq_false_iff.mpr hw
          rw [this] at fin
          exact iteF (fin _ s1)
        | lst h1 h2 h3 => exact iteF (fin _ s1)
        | tup h1 h2 => exact iteF (fin _ s1)
        | dict h0 h1 h2 h3 => exact iteF (fin _ s1)
end
end Lw
namespace Lw
open PySem PySem.Spec PyProof.Rows L2 Kv
theorem step_nostr {n : Int} {d : PyData} {r : List PyData} (h : isStr d = false) : stepL n (d :: r) = false := by
  have e : ∀ z, strEq d z = false := by
    intro z
    cases d with
    | str x => cases h
    | _ => rfl
  match r with
  | [] => show (strEq d "next" && _) = false; rw [e, Bool.false_and]
  | [b] => show (strEq d "say" && _) = false; rw [e, Bool.false_and]
  | [b, c] => show (strEq d "call" && _) = false; rw [e, Bool.false_and]
  | b :: c :: x :: y => show (strEq d "next" && _) = false; rw [e, Bool.false_and]
theorem step_next {n : Int} {r : List PyData} : stepL n (.str "next" :: r) = decide (r.length = 0) := by
  match r with
  | [] =>
    show (strEq (.str "next") "next" && true) = _
    rw [(by decide +kernel : strEq (.str "next") "next" = true)]
    rfl
  | [b] =>
    show (strEq (.str "next") "say" && wordD b) = false
    rw [(by decide +kernel : strEq (.str "next") "say" = false), Bool.false_and]
  | [b, c] =>
    show (strEq (.str "next") "call" && (wordD b && argsD n c)) = false
    rw [(by decide +kernel : strEq (.str "next") "call" = false), Bool.false_and]
  | b :: c :: x :: y =>
    show (strEq (.str "next") "next" && tupEq (b :: c :: x :: y) []) = _
    rw [show tupEq (b :: c :: x :: y) [] = false from rfl, Bool.and_false]
    rfl
theorem step_say {n : Int} {r : List PyData} : stepL n (.str "say" :: r) = (match r with | [b] => wordD b | _ => false) := by
  match r with
  | [] =>
    show (strEq (.str "say") "next" && true) = false
    rw [(by decide +kernel : strEq (.str "say") "next" = false), Bool.false_and]
  | [b] =>
    show (strEq (.str "say") "say" && _) = _
    rw [(by decide +kernel : strEq (.str "say") "say" = true)]
    exact Bool.true_and _
  | [b, c] =>
    show (strEq (.str "say") "call" && (wordD b && argsD n c)) = false
    rw [(by decide +kernel : strEq (.str "say") "call" = false), Bool.false_and]
  | b :: c :: x :: y =>
    show (strEq (.str "say") "next" && tupEq (b :: c :: x :: y) []) = _
    rw [show tupEq (b :: c :: x :: y) [] = false from rfl]
    exact Bool.and_false _
theorem step_call {n : Int} {r : List PyData} : stepL n (.str "call" :: r) = (match r with | [b, c] => wordD b && argsD n c | _ => false) := by
  match r with
  | [] =>
    show (strEq (.str "call") "next" && true) = false
    rw [(by decide +kernel : strEq (.str "call") "next" = false), Bool.false_and]
  | [b] =>
    show (strEq (.str "call") "say" && wordD b) = false
    rw [(by decide +kernel : strEq (.str "call") "say" = false), Bool.false_and]
  | [b, c] =>
    show (strEq (.str "call") "call" && _) = _
    rw [(by decide +kernel : strEq (.str "call") "call" = true)]
    exact Bool.true_and _
  | b :: c :: x :: y =>
    show (strEq (.str "call") "next" && tupEq (b :: c :: x :: y) []) = _
    rw [show tupEq (b :: c :: x :: y) [] = false from rfl]
    exact Bool.and_false _
theorem strEq_no {x z : Str} (h : x ≠ z) : strEq (.str x) z = false := by
  show (x == z) = false
  exact beq_false_of_ne h
theorem step_other {n : Int} {x : Str} {r : List PyData} (h1 : x ≠ "next") (h2 : x ≠ "say") (h3 : x ≠ "call") : stepL n (.str x :: r) = false := by
  match r with
  | [] =>
    show (strEq (.str x) "next" && _) = false
    rw [strEq_no h1, Bool.false_and]
  | [b] =>
    show (strEq (.str x) "say" && _) = false
    rw [strEq_no h2, Bool.false_and]
  | [b, c] =>
    show (strEq (.str x) "call" && _) = false
    rw [strEq_no h3, Bool.false_and]
  | b :: c :: y :: t =>
    show (strEq (.str x) "next" && tupEq (b :: c :: y :: t) []) = _
    rw [show tupEq (b :: c :: y :: t) [] = false from rfl]
    exact Bool.and_false _
section
variable {P : Program} {w : World} {K : PySem.W.Frag} {mg : Str → Option Value} {base : Heap}
theorem ok_lstep {f fW fA : Addr} {fd fdW fdA : FuncData} {k : Nat} (F : Fun K "_law_is_step" "_law_is_step" sLStep f fd)
    (FW : Fun K "_law_is_word" "_law_is_word" sLWord fW fdW) (bW : Binds K fdW ["_law_thing"] []) (gW : mg "_law_is_word" = some (.ref fW))
    (FA : Fun K "_law_is_argument" "_law_is_argument" sLArg fA fdA) (bA : Binds K fdA ["_law_thing", "_law_amount"] []) (gA : mg "_law_is_argument" = some (.ref fA))
    (GW : FnOk P w K mg base CX0 (k + 1) fW fdW ["_law_thing"] (spName K)) (GA : FnOk P w K mg base CX0 (k + 2) fA fdA ["_law_thing", "_law_amount"] (spArg K))
    (mi : mg "isinstance" = none) (mT : mg "tuple" = none) (ms : mg "str" = none) (ml : mg "len" = none) (ma : mg "all" = none) :
    FnOk P w K mg base CX0 (k + 3) f fd ["_law_thing", "_law_amount"] (spStepD K) := by
  refine F.ok scLStep (fun vs H Q E h => ?_) (fun cdv A outer s H vs Q E hr h => ?_)
  · obtain ⟨v, nd, d, n, rfl, _⟩ := h
    rfl
  · obtain ⟨v, nd, d, n, rfl, sh, hf, fin⟩ := h
    have hrW := hr.mono (by omega : k + 1 ≤ k + 2)
    have hu := hu_of hr
    refine ⟨_, pss_cons (ps_if (PW.pt (pw_or (pt_not (pt_val (pe_callB call_isi (by rfl) mi (by decide +kernel) (pa_cons (pv 0)
          (pa_cons (pe_bltn (v := .ty "tuple") (by rfl) mT (by decide +kernel : bootBuiltins "tuple" = some (.type "tuple")) rfl) pa_nil)))))
        (pw_or (pt_cmpR (op_eqTT hu) (pv 0) (pe_tup pa_nil) (nomark _))
        (pw_or1 (pt_not (pt_val (pe_callB call_isi (by rfl) mi (by decide +kernel) (pa_cons (pe_ix ix_tup (pv 0) pe_int (fun _ _ => rfl))
          (pa_cons (pe_bltn (v := .ty "str") (by rfl) ms (by decide +kernel : bootBuiltins "str" = some (.type "str")) rfl) pa_nil)))))))))
        (pss_one (ps_ret pe_bl)) pss_nil)
      (pss_cons (ps_if (pt_cmpR op_eq (pe_ix ix_tup (pv 0) pe_int (fun _ _ => rfl)) pe_str (nomark _))
        (pss_one (ps_ret (pe_cmpR op_eq (pe_callB call_len_seq (by rfl) ml PySem.boot_len (pa_cons (pv 0) pa_nil)) pe_int (nomark _)))) pss_nil)
      (pss_cons (ps_if (pt_cmpR op_eq (pe_ix ix_tup (pv 0) pe_int (fun _ _ => rfl)) pe_str (nomark _))
        (pss_one (ps_ret (pe_and (pe_cmpR op_eq (pe_callB call_len_seq (by rfl) ml PySem.boot_len (pa_cons (pv 0) pa_nil)) pe_int (nomark _))
          (pe_one (pe_call GW hrW (by rfl) gW FW.kp bW .nil pass0 (pa_cons (pe_ix ix_tup (pv 0) pe_int (fun _ _ => rfl)) pa_nil)))))) pss_nil)
      (pss_cons (ps_if (PW.pt (pw_or (pt_cmpR op_ne (pe_ix ix_tup (pv 0) pe_int (fun _ _ => rfl)) pe_str (nomark _))
        (pw_or (pt_cmpR op_ne (pe_callB call_len_seq (by rfl) ml PySem.boot_len (pa_cons (pv 0) pa_nil)) pe_int (nomark _))
        (pw_or (pt_not (pt_val (pe_call GW hrW (by rfl) gW FW.kp bW .nil pass0 (pa_cons (pe_ix ix_tup (pv 0) pe_int (fun _ _ => rfl)) pa_nil))))
        (pw_or1 (pt_not (pt_val (pe_callB call_isi (by rfl) mi (by decide +kernel) (pa_cons (pe_ix ix_tup (pv 0) pe_int (fun _ _ => rfl))
          (pa_cons (pe_bltn (v := .ty "tuple") (by rfl) mT (by decide +kernel : bootBuiltins "tuple" = some (.type "tuple")) rfl) pa_nil))))))))))
        (pss_one (ps_ret pe_bl)) pss_nil)
      (pss_one (ps_ret (pe_and (pe_chain op_lt op_lt pe_int (pe_callB call_len_seq (by rfl) ml PySem.boot_len (pa_cons (pe_ix ix_tup (pv 0) pe_int (fun _ _ => rfl)) pa_nil)) pe_int)
        (pe_one (pe_callB (cr_all rfl) (by rfl) ma (by decide +kernel) (pa_cons
          (pe_lc (own := [("_law_one", 2)]) (g := gName 2) (tt := tYes) rfl scLStep.nd (pi_tup (pe_ix ix_tup (pv 0) pe_int (fun _ _ => rfl)))
            (blkOk_by (own := [("_law_one", 2)]) (N := NLStep) (sc := defScope sLStep) (by decide +kernel))
            (fun _ _ _ _ _ => pg_name (i := 2) scLStep.nd rfl (Or.inl rfl)) (fun _ _ _ _ _ => pts_nil)
            (fun _ _ _ _ _ => pe_call GA hr (by rfl) gA FA.kp bA .nil pass0 (pa_cons (pv 2) (pa_cons (pv 1) pa_nil)))) pa_nil))))))))), ?_⟩
    refine ⟨v, rfl, v, .ty "tuple", _, _, isTup d, rfl, .ty "tuple", sh.tyIs, kit_ty (kit_tup d), _, rfl, ?_⟩
    cases sh with
    | non => exact iteT (fin H (Same.refl _))
    | bl b => exact iteT (fin H (Same.refl _))
    | int i => exact iteT (fin H (Same.refl _))
    | str y => exact iteT (fin H (Same.refl _))
    | lst h1 h2 h3 => exact iteT (fin H (Same.refl _))
    | dict h0 h1 h2 h3 => exact iteT (fin H (Same.refl _))
    | @tup a xs ds h1 h2 =>
      have hl := h2.length
      have pe : stepD n (.tuple ds) = stepL n ds := rfl
      rw [pe] at fin
      refine iteF ?_
      refine ⟨.ref a, rfl, (by decide : 0 ≤ sizeLine), fun t nt => ?_⟩
      have st := same_new (o := .tup []) nt
      refine ⟨nd, a, t, xs, ds, [], rfl, sqT_same h1 st, h2.same st, rfl, .inl (.inl upd_same), _, rfl, ?_⟩
      cases h2 with
      | nil => exact iteT (fin _ st)
      | @cons x0 xr d0 dr sh0 shr =>
        have g1 := sqT_same h1 st
        have sh0' := sh0.same st
        refine iteF ?_
        refine ⟨.ref a, rfl, a, _, 0, x0, rfl, rfl, g1, atI_nat (j := 0) rfl, x0, .ty "str", _, _, isStr d0, rfl, .ty "str", sh0'.tyIs, kit_ty (kit_str d0), _, rfl, ?_⟩
        by_cases hs : isStr d0 = true
        · rw [hs]
          refine iteF ?_
          cases sh0 with
          | str x =>
            have hl2 : xr.length = dr.length := shr.length
            refine ⟨.ref a, rfl, a, _, 0, .str x, rfl, rfl, g1, atI_nat (j := 0) rfl, rfl, _, rfl, ite2 (fun e => ?_) (fun e => ?_)⟩
            · have ex : x = "next" := by
                have := of_decide_eq_true e
                injection this
              subst ex
              rw [step_next] at fin
              refine ⟨.ref a, rfl, a, _, rfl, .inr g1, rfl, ?_⟩
              have : decide (V.int ((V.str "next" :: xr).length : Nat) = V.int 1) = decide (dr.length = 0) := by
                rw [← hl2]
                cases xr with
                | nil => rfl
                | cons y r =>
                  rw [decide_eq_false (by simp : ¬ (y :: r).length = 0), decide_eq_false]
                  intro z
                  injection z with z
                  simp only [List.length_cons] at z
                  omega
              rw [this]
              exact fin _ st
            · have nx : x ≠ "next" := fun z => e (by rw [z]; exact decide_eq_true rfl)
              refine ⟨.ref a, rfl, a, _, 0, .str x, rfl, rfl, g1, atI_nat (j := 0) rfl, rfl, _, rfl, ite2 (fun e => ?_) (fun e => ?_)⟩
              · have ex : x = "say" := by
                  have := of_decide_eq_true e
                  injection this
                subst ex
                rw [step_say] at fin
                refine ⟨.ref a, rfl, a, _, rfl, .inr g1, rfl, _, rfl, ite2 (fun e => ?_) (fun e => ?_)⟩
                · have e2 : xr.length = 1 := by
                    have := of_decide_eq_true e
                    injection this with this
                    simp only [List.length_cons] at this
                    omega
                  match xr, dr, shr, e2 with
                  | [x1], [d1], .cons sh1 .nil, _ =>
                    have f1 := fit_all (i := 1) (fit_tup hf) rfl
                    refine ⟨.ref a, rfl, a, _, 1, x1, rfl, rfl, g1, atI_nat (j := 1) rfl, x1, nd, d1, rfl, sh1.same st, fit_str sh1 f1, fun H1 s1 => ?_⟩
                    rw [word_name sh1]
                    exact fin _ (st.trans s1)
                · have e2 : dr.length ≠ 1 := by
                    intro z
                    apply e
                    rw [decide_eq_true_eq]
                    show V.int (((V.str "say" :: xr).length : Nat) : Int) = V.int 2
                    rw [List.length_cons, hl2, z]
                    rfl
                  match dr, e2 with
                  | [], _ => exact fin _ st
                  | _ :: _ :: _, _ => exact fin _ st
              · have ns : x ≠ "say" := fun z => e (by rw [z]; exact decide_eq_true rfl)
                refine ⟨.ref a, rfl, a, _, 0, .str x, rfl, rfl, g1, atI_nat (j := 0) rfl, rfl, _, rfl, ?_⟩
                by_cases ec : x = "call"
                · subst ec
                  show if (!decide (V.str "call" = V.str "call")) = true then _ else _
                  rw [decide_eq_true rfl]
                  refine iteF ?_
                  rw [step_call] at fin
                  refine ⟨.ref a, rfl, a, _, rfl, .inr g1, rfl, _, rfl, ?_⟩
                  by_cases e3 : dr.length = 2
                  · have e4 : decide (V.int (((V.str "call" :: xr).length : Nat) : Int) = V.int 3) = true := by
                      rw [decide_eq_true_eq, List.length_cons, hl2, e3]
                      rfl
                    rw [e4]
                    refine iteF ?_
                    obtain ⟨x1, x2, d1, d2, rfl, rfl, sh1, sh2⟩ : ∃ x1 x2 d1 d2, xr = [x1, x2] ∧ dr = [d1, d2] ∧ Sh K nd H x1 d1 ∧ Sh K nd H x2 d2 := by
                      cases shr with
                      | nil => exact absurd e3 (by simp)
                      | cons sh1 t1 =>
                        cases t1 with
                        | nil => exact absurd e3 (by simp)
                        | cons sh2 t2 =>
                          cases t2 with
                          | nil => exact ⟨_, _, _, _, rfl, rfl, sh1, sh2⟩
                          | cons _ _ => exact absurd e3 (by simp)
                    · have f1 : Fit 9000 20 d1 := fit_all (i := 1) (fit_tup hf) rfl
                      have f2 : Fit 9000 20 d2 := fit_all (i := 2) (fit_tup hf) rfl
                      refine ⟨.ref a, rfl, a, _, 1, x1, rfl, rfl, g1, atI_nat (j := 1) rfl, x1, nd, d1, rfl, sh1.same st, fit_str sh1 f1, fun H1 s1 => ?_⟩
                      rw [word_name sh1]
                      refine ⟨_, rfl, ?_⟩
                      have fin2 : ∀ H', Same H H' → Q (.bl (wordD d1 && argsD n d2)) H' := fin
                      have s01 := st.trans s1
                      cases c1 : wordD d1 with
                      | false =>
                        rw [c1, Bool.false_and] at fin2
                        exact iteT (fin2 _ s01)
                      | true =>
                        rw [c1, Bool.true_and] at fin2
                        refine iteF ?_
                        have g2 := sqT_same h1 s01
                        have sh2' := sh2.same s01
                        refine ⟨.ref a, rfl, a, _, 2, x2, rfl, rfl, g2, atI_nat (j := 2) rfl, x2, .ty "tuple", _, _, isTup d2, rfl, .ty "tuple", sh2'.tyIs, kit_ty (kit_tup d2), _, rfl, ?_⟩
                        cases sh2 with
                        | non => exact iteT (fin2 _ s01)
                        | bl b => exact iteT (fin2 _ s01)
                        | int i => exact iteT (fin2 _ s01)
                        | str y => exact iteT (fin2 _ s01)
                        | lst k1 k2 k3 => exact iteT (fin2 _ s01)
                        | dict k0 k1 k2 k3 => exact iteT (fin2 _ s01)
                        | @tup b ys es k1 k2 =>
                          refine iteF ?_
                          have kl := k2.length
                          have k1' := sqT_same k1 s01
                          have pa : argsD n (.tuple es) = ((decide (1 ≤ es.length) && decide (es.length ≤ 3)) && es.all (argD n)) := rfl
                          rw [pa] at fin2
                          have no : ¬ (1 ≤ es.length ∧ es.length ≤ 3) → Q (.bl false) H1 := by
                            intro z
                            have := fin2 _ s01
                            have e : (decide (1 ≤ es.length) && decide (es.length ≤ 3)) = false := by
                              by_cases y : 1 ≤ es.length
                              · rw [decide_eq_false (by omega : ¬ es.length ≤ 3), Bool.and_false]
                              · rw [decide_eq_false y, Bool.false_and]
                            rw [e, Bool.false_and] at this
                            exact this
                          refine ⟨.ref a, rfl, a, _, 2, .ref b, rfl, rfl, g2, atI_nat (j := 2) rfl, b, ys, rfl, .inr k1', _, _, rfl, rfl, _, rfl, ite2 (fun e => ?_) (fun e => ?_)⟩
                          · have e5 : (0 : Int) < (ys.length : Nat) := of_decide_eq_true e
                            refine ⟨_, _, rfl, rfl, _, rfl, ite2 (fun e => ?_) (fun e => ?_)⟩
                            · have e6 : ((ys.length : Nat) : Int) < 4 := of_decide_eq_true e
                              have cc : (decide (1 ≤ es.length) && decide (es.length ≤ 3)) = true := by
                                rw [decide_eq_true (by omega : 1 ≤ es.length), decide_eq_true (by omega : es.length ≤ 3)]
                                rfl
                              rw [cc, Bool.true_and] at fin2
                              refine ⟨.ref a, rfl, a, _, 2, .ref b, rfl, rfl, g2, atI_nat (j := 2) rfl, b, rfl, ⟨_, k1'⟩, fun D nD => ?_⟩
                              refine lc_tup (xs := ys) (fun i H3 => H3 D = some (.lst ((es.take i).map fun d => .bl (argD n d))) ∧ Same H1 H3) ⟨upd_same, same_new nD⟩ (fun i H3 _ hP => sqT_same k1' hP.2) (fun i v H3 hv hP => ?_) (fun H3 hP => ?_)
                              · obtain ⟨e1, s3⟩ := hP
                                obtain ⟨di, hdi, shi⟩ := shGet k2 hv
                                have fi := fit_all (fit_tup f2) hdi
                                refine ⟨rfl, v, rfl, .int n, rfl, v, nd, di, n, rfl, (shi.same s01).same s3, fit_str shi fi, fun H4 s4 => ?_⟩
                                refine ⟨_, s4 _ _ e1, ?_, ?_, ?_⟩
                                · rw [List.length_map, List.length_take]
                                  exact sz1 (by omega)
                                · rw [upd_same, List.take_add_one, hdi, List.map_append]
                                  rfl
                                · intro b o hb
                                  rw [upd_ne (ne_of_none hb nD)]
                                  exact s4 _ _ (s3 _ _ hb)
                              · obtain ⟨e1, s3⟩ := hP
                                have tk : es.take ys.length = es := List.take_of_length_le (by omega)
                                rw [tk] at e1
                                refine ⟨D, es.map (argD n), rfl, .inl (.inl (by rw [e1, List.map_map]; rfl)), ?_⟩
                                rw [List.all_map]
                                exact fin2 _ (s01.trans s3)
                            · have e6 : ¬ ((ys.length : Nat) : Int) < 4 := fun z => e (decide_eq_true z)
                              exact no (by omega)
                          · have e5 : ¬ (0 : Int) < (ys.length : Nat) := fun z => e (decide_eq_true z)
                            exact ⟨false, rfl, iteF (no (by omega))⟩
                  · have e4 : decide (V.int (((V.str "call" :: xr).length : Nat) : Int) = V.int 3) = false := by
                      rw [decide_eq_false_iff_not, List.length_cons, hl2]
                      intro z
                      injection z with z
                      omega
                    rw [e4]
                    refine iteT ?_
                    match dr, e3 with
                    | [], _ => exact fin _ st
                    | [_], _ => exact fin _ st
                    | _ :: _ :: _ :: _, _ => exact fin _ st
                · rw [step_other nx ns ec] at fin
                  have : decide (V.str x = V.str "call") = false := by
                    rw [decide_eq_false_iff_not]
                    intro z
                    injection z with z
                    exact ec z
                  show if (!decide (V.str x = V.str "call")) = true then _ else _
                  rw [this]
                  exact iteT (fin _ st)
          | _ => cases hs
        · rw [step_nostr (Bool.eq_false_iff.mpr hs)] at fin
          rw [Bool.eq_false_iff.mpr hs]
          exact iteT (fin _ st)
end
end Lw
namespace Lw
open PySem PySem.Spec PyProof.Rows L2 Kv
abbrev NLBody : List Str := ["_law_thing", "_law_amount", "_law_nexts", "_law_step_here"]
theorem scLBody : FnScope NLBody ["_law_thing", "_law_amount"] (defScope sLBody) :=
  ⟨rfl, rfl, rfl, by decide +kernel, rfl, by decide +kernel, by decide +kernel⟩
abbrev NRight : List Str := ["_law_thing", "_law_amount", "_law_shown", "_law_due", "_law_told", "_law_one"]
theorem scRight : FnScope NRight ["_law_thing", "_law_amount"] (defScope sRight) :=
  ⟨rfl, rfl, rfl, by decide +kernel, rfl, by decide +kernel, by decide +kernel⟩
def rLenQ (K : PySem.W.Frag) : List V → Hp → VK → Prop := fun xs H Q => ∃ p ys, xs = [.ref p] ∧ (SqL K H p ys ∨ SqT K H p ys) ∧ Q (.int ys.length) H
def len1 : PyData → Bool
  | .tuple [_] => true
  | _ => false
theorem next_len1 {n : Int} {d : PyData} (h : stepD n d = true) : nextD d = len1 d := by
  cases d with
  | tuple es =>
    have h2 : stepL n es = true := h
    match es, h2 with
    | [], h2 => rfl
    | [a], h2 => exact h2
    | [a, b], _ =>
      show (strEq a "next" && tupEq [b] []) = false
      rw [show tupEq [b] [] = false from rfl, Bool.and_false]
    | [a, b, c], _ =>
      show (strEq a "next" && tupEq [b, c] []) = false
      rw [show tupEq [b, c] [] = false from rfl, Bool.and_false]
    | a :: b :: c :: e :: r, _ =>
      show (strEq a "next" && tupEq (b :: c :: e :: r) []) = false
      rw [show tupEq (b :: c :: e :: r) [] = false from rfl, Bool.and_false]
  | _ => rfl
theorem filter_len1 {n : Int} : ∀ {ds : List PyData}, ds.all (stepD n) = true → ds.filter nextD = ds.filter len1
  | [], _ => rfl
  | d :: ds, h => by
    rw [List.all_cons, Bool.and_eq_true] at h
    have ih := filter_len1 h.2
    have e := next_len1 h.1
    rw [List.filter_cons, List.filter_cons, e, ih]
section
variable {P : Program} {w : World} {K : PySem.W.Frag} {mg : Str → Option Value} {base : Heap}
theorem ok_lbody {f fS : Addr} {fd fdS : FuncData} {k : Nat} (F : Fun K "_law_is_body" "_law_is_body" sLBody f fd)
    (FS : Fun K "_law_is_step" "_law_is_step" sLStep fS fdS) (bS : Binds K fdS ["_law_thing", "_law_amount"] []) (gS : mg "_law_is_step" = some (.ref fS))
    (GS : FnOk P w K mg base CX0 (k + 3) fS fdS ["_law_thing", "_law_amount"] (spStepD K))
    (mi : mg "isinstance" = none) (mT : mg "tuple" = none) (ml : mg "len" = none) (ma : mg "all" = none) :
    FnOk P w K mg base CX0 (k + 4) f fd ["_law_thing", "_law_amount"] (spBody K) := by
  refine F.ok scLBody (fun vs H Q E h => ?_) (fun cdv A outer s H vs Q E hr h => ?_)
  · obtain ⟨v, nd, d, n, rfl, _⟩ := h
    rfl
  · obtain ⟨v, nd, d, n, rfl, sh, hf, fin⟩ := h
    refine ⟨_, pss_cons (ps_if (pt_not (pt_val (pe_callB call_isi (by rfl) mi (by decide +kernel) (pa_cons (pv 0)
          (pa_cons (pe_bltn (v := .ty "tuple") (by rfl) mT (by decide +kernel : bootBuiltins "tuple" = some (.type "tuple")) rfl) pa_nil))))) (pss_one (ps_ret pe_bl)) pss_nil)
      (pss_cons (ps_setLc (i := 2) (own := [("_law_step_here", 3)]) (g := gName 3)
          (tt := tAnd (tB (tCB (rIsi K) (tCons (tVar 3) (tCons (tC (.ty "tuple")) tNil)))) (tTest (tOp rEq (tCB (rLenQ K) (tCons (tVar 3) tNil)) (tC (.int 1))))) (te := tVar 3) rfl scLBody.nd rfl rfl
            (sw_true rfl rfl rfl (by decide +kernel)) (pi_tup (pv 0))
            (blkOk_by (own := [("_law_step_here", 3)]) (N := NLBody) (sc := defScope sLBody) (by decide +kernel))
            (fun _ _ _ _ _ => pg_name (i := 3) scLBody.nd rfl (Or.inl rfl)) (fun _ _ _ _ _ => pts_one (PW.pt (pw_and (pt_val (pe_callB call_isi (by rfl) mi (by decide +kernel) (pa_cons (pv 3)
              (pa_cons (pe_bltn (v := .ty "tuple") (by rfl) mT (by decide +kernel : bootBuiltins "tuple" = some (.type "tuple")) rfl) pa_nil))))
              (pw_and1 (pt_cmpR op_eq (pe_callB call_len_seq (by rfl) ml PySem.boot_len (pa_cons (pv 3) pa_nil)) pe_int (nomark _))))))
            (fun _ _ _ _ _ => pv 3))
      (pss_one (ps_ret (pe_and (pe_callB (cr_all rfl) (by rfl) ma (by decide +kernel) (pa_cons
            (pe_lc (own := [("_law_step_here", 3)]) (g := gName 3) (tt := tYes) rfl scLBody.nd (pi_tup (pv 0))
              (blkOk_by (own := [("_law_step_here", 3)]) (N := NLBody) (sc := defScope sLBody) (by decide +kernel))
              (fun _ _ _ _ _ => pg_name (i := 3) scLBody.nd rfl (Or.inl rfl)) (fun _ _ _ _ _ => pts_nil)
              (fun _ _ _ _ _ => pe_call GS hr (by rfl) gS FS.kp bS .nil pass0 (pa_cons (pv 3) (pa_cons (pv 1) pa_nil)))) pa_nil))
        (pe_one (pe_cmpR op_lt (pe_callB call_len_seq (by rfl) ml PySem.boot_len (pa_cons (pv 2) pa_nil)) pe_int (nomark _))))))), ?_⟩
    refine ⟨v, rfl, v, .ty "tuple", _, _, isTup d, rfl, .ty "tuple", sh.tyIs, kit_ty (kit_tup d), _, rfl, ?_⟩
    cases sh with
    | non => exact iteT (fin H (Same.refl _))
    | bl b => exact iteT (fin H (Same.refl _))
    | int i => exact iteT (fin H (Same.refl _))
    | str y => exact iteT (fin H (Same.refl _))
    | lst h1 h2 h3 => exact iteT (fin H (Same.refl _))
    | dict h0 h1 h2 h3 => exact iteT (fin H (Same.refl _))
    | @tup a xs ds h1 h2 =>
      have hl := h2.length
      have pe : bodyD n (.tuple ds) = (ds.all (stepD n) && decide ((ds.filter nextD).length ≤ 1)) := rfl
      rw [pe] at fin
      have dl : ds.length ≤ 9000 := fit_len (fit_tup hf)
      refine iteF ?_
      refine ⟨.ref a, rfl, a, rfl, ⟨_, h1⟩, fun L nL => ?_⟩
      refine lc_tup (xs := xs) (fun i H4 => H4 = upd H L (.lst (pick len1 (xs.take i) (ds.take i)))) rfl (fun i H4 _ hP => ?_) (fun i v H4 hv hP => ?_) (fun H4 hP => ?_)
      · subst hP
        exact sqT_same h1 (same_new nL)
      · subst hP
        obtain ⟨di, hdi, shi⟩ := shGet h2 hv
        have s4 := same_new (o := .lst (pick len1 (xs.take i) (ds.take i))) nL
        have shi' := shi.same s4
        have sn : pick len1 (xs.take (i + 1)) (ds.take (i + 1)) = pick len1 (xs.take i) (ds.take i) ++ (if len1 di then [v] else []) := by
          rw [List.take_add_one, List.take_add_one, hv, hdi]
          exact pick_snoc len1 (by rw [List.length_take, List.length_take, hl])
        have pl : (pick len1 (xs.take i) (ds.take i)).length < sizeLine := by
          rw [pick_len _ _ _ (by rw [List.length_take, List.length_take, hl])]
          have := List.length_filter_le len1 (ds.take i)
          rw [List.length_take] at this
          exact Nat.lt_of_le_of_lt (by omega : _ ≤ 9000) (by decide)
        have no : len1 di = false → upd H L (.lst (pick len1 (xs.take i) (ds.take i))) = upd H L (.lst (pick len1 (xs.take (i + 1)) (ds.take (i + 1)))) := by
          intro z
          rw [sn, z, if_neg (by decide), List.append_nil]
        refine ⟨rfl, v, rfl, v, .ty "tuple", _, _, isTup di, rfl, .ty "tuple", shi'.tyIs, kit_ty (kit_tup di), _, rfl, ?_⟩
        cases shi with
        | @tup b ys es k1 k2 =>
          have kl := k2.length
          refine iteT ⟨.ref b, rfl, b, ys, rfl, .inr (sqT_same k1 s4), rfl, _, rfl, ?_⟩
          by_cases z : ys.length = 1
          · have e1 : decide (V.int ((ys.length : Nat) : Int) = V.int 1) = true := by
              rw [decide_eq_true_eq, z]
              rfl
            rw [e1]
            refine ⟨.ref b, rfl, _, upd_same, pl, ?_⟩
            have l1 : len1 (.tuple es) = true := by
              match es, kl.symm.trans z with
              | [_], _ => rfl
            rw [upd_upd, sn, l1, if_pos rfl]
          · have e1 : decide (V.int ((ys.length : Nat) : Int) = V.int 1) = false := by
              rw [decide_eq_false_iff_not]
              intro y
              injection y with y
              omega
            rw [e1]
            refine no ?_
            have z2 : es.length ≠ 1 := fun y => z (kl.trans y)
            match es, z2 with
            | [], _ => rfl
            | _ :: _ :: _, _ => rfl
        | non => exact iteF (no rfl)
        | bl b => exact iteF (no rfl)
        | int i => exact iteF (no rfl)
        | str y => exact iteF (no rfl)
        | lst k1 k2 k3 => exact iteF (no rfl)
        | dict k0 k1 k2 k3 => exact iteF (no rfl)
      · subst hP
        have tx : xs.take xs.length = xs := List.take_of_length_le (Nat.le_refl _)
        have tk : ds.take xs.length = ds := List.take_of_length_le (by omega)
        rw [tk, tx]
        have s4 := same_new (o := .lst (pick len1 xs ds)) nL
        have eL : upd H L (.lst (pick len1 xs ds)) L = some (.lst (pick len1 xs ds)) := upd_same
        generalize hG : upd H L (.lst (pick len1 xs ds)) = G at *
        refine ⟨.ref a, rfl, a, rfl, ⟨_, sqT_same h1 s4⟩, fun D nD => ?_⟩
        refine lc_tup (xs := xs) (fun i H3 => H3 D = some (.lst ((ds.take i).map fun d => .bl (stepD n d))) ∧ Same G H3) ⟨upd_same, same_new nD⟩ (fun i H3 _ hP => sqT_same h1 (s4.trans hP.2)) (fun i v H3 hv hP => ?_) (fun H3 hP => ?_)
        · obtain ⟨e1, s3⟩ := hP
          obtain ⟨di, hdi, shi⟩ := shGet h2 hv
          have fi := fit_all (fit_tup hf) hdi
          refine ⟨rfl, v, rfl, .int n, rfl, v, nd, di, n, rfl, shi.same (s4.trans s3), fi, fun H4 s5 => ?_⟩
          refine ⟨_, s5 _ _ e1, ?_, ?_, ?_⟩
          · rw [List.length_map, List.length_take]
            exact Nat.lt_of_le_of_lt (by omega : _ ≤ 9000) (by decide)
          · rw [upd_same, List.take_add_one, hdi, List.map_append]
            rfl
          · intro b o hb
            rw [upd_ne (ne_of_none hb nD)]
            exact s5 _ _ (s3 _ _ hb)
        · obtain ⟨e1, s3⟩ := hP
          rw [tk] at e1
          refine ⟨D, ds.map (stepD n), rfl, .inl (.inl (by rw [e1, List.map_map]; rfl)), _, rfl, ?_⟩
          rw [List.all_map]
          cases cc : ds.all (stepD n) with
          | false =>
            rw [cc, Bool.false_and] at fin
            rw [show ds.all (id ∘ stepD n) = ds.all (stepD n) from rfl, cc]
            exact iteF (fin _ (s4.trans s3))
          | true =>
            rw [cc, Bool.true_and] at fin
            rw [show ds.all (id ∘ stepD n) = ds.all (stepD n) from rfl, cc]
            refine iteT ?_
            refine ⟨.ref L, rfl, L, _, rfl, .inl (.inl (.inl (s3 _ _ eL))), _, _, rfl, rfl, ?_⟩
            rw [pick_len _ _ _ hl]
            have := fin _ (s4.trans s3)
            rw [filter_len1 cc] at this
            have e : decide (((ds.filter len1).length : Int) < 2) = decide ((ds.filter len1).length ≤ 1) := by
              by_cases z : (ds.filter len1).length ≤ 1
              · rw [decide_eq_true z, decide_eq_true (by omega : ((ds.filter len1).length : Int) < 2)]
              · rw [decide_eq_false z, decide_eq_false (by omega : ¬ ((ds.filter len1).length : Int) < 2)]
            rw [← e] at this
            exact this
theorem kb_body {f : Addr} {fd : FuncData} (F : Fun K "is_body" "is_body" sIsBody f fd) :
    KBinds K fd ["value", "count"] ["count", "value"] (fun us ws => us ++ ws.reverse) (fun vs zs => vs ++ zs.reverse) := by
  obtain ⟨oc, od, kV, doc, pm, an, cdv, ct, osl, rfl, lk, hcd⟩ := F.ex
  refine ⟨fun s us ws _ hl => ?_, fun r1 r2 => r1.append r2.reverse⟩
  have hl2 : us.length + ws.length = 2 := by
    rw [List.length_append, List.length_reverse] at hl
    exact hl
  match us, ws, hl2 with
  | [], [_, _], _ => exact .of_eq rfl
  | [_], [_], _ => exact .of_eq rfl
  | [_, _], [], _ => exact .of_eq rfl
  | [], [], h => exact absurd h (by simp)
  | [], [_], h => exact absurd h (by simp)
  | [], _ :: _ :: _ :: _, h => exact absurd h (by simp only [List.length_nil, List.length_cons]; omega)
  | [_], [], h => exact absurd h (by simp)
  | [_], _ :: _ :: _, h => exact absurd h (by simp only [List.length_nil, List.length_cons]; omega)
  | [_, _], _ :: _, h => exact absurd h (by simp only [List.length_nil, List.length_cons]; omega)
  | _ :: _ :: _ :: _, _, h => exact absurd h (by simp only [List.length_cons]; omega)
end
end Lw
namespace Lw
open PySem PySem.Spec PyProof.Rows L2 Kv
theorem seqIx {d : Int} {n : Nat} (h0 : 0 ≤ d) (h1 : d < n) : seqIndex? d n = some d.toNat := by
  unfold seqIndex?
  simp only [show ¬ d < 0 by omega, if_false]
  simp [h0, h1]
/-- one letter each -/
theorem join_az : ∀ ys : List Str, (∀ y ∈ ys, ∃ c, c ∈ az ∧ y = ⟨#[c]⟩) →
    (Txt.join "" ys).length = ys.length ∧ ∀ c ∈ (Txt.join "" ys).cps.toList, c ∈ az := by
  intro ys hy
  have e : (Txt.join "" ys).cps.toList = (ys.map TL.tl).flatten := by
    rw [TL.join_eq]
    show TL.tl (Str.join _ _) = _
    rw [TL.tl_join]
    exact joinL_nil _
  refine ⟨?_, fun c hc => ?_⟩
  · rw [Kv.len_list, e]
    clear e
    induction ys with
    | nil => rfl
    | cons y r ih =>
      obtain ⟨c, _, h1⟩ := hy y (List.mem_cons_self ..)
      have h2 := ih fun z hz => hy z (List.mem_cons_of_mem _ hz)
      simp only [List.map_cons, List.flatten_cons, List.length_append, List.length_cons, h2]
      have h3 : (TL.tl y).length = 1 := by
        rw [h1]
        rfl
      omega
  · rw [e] at hc
    obtain ⟨l, hl, hcl⟩ := List.mem_flatten.mp hc
    obtain ⟨y, hm, rfl⟩ := List.mem_map.mp hl
    obtain ⟨d, hd, rfl⟩ := hy y hm
    have : c = d := by simpa [TL.tl] using hcl
    rw [this]
    exact hd
theorem name_sm {x : Str} (h : nameV (.str x) = true) : Sm 8 x := by
  have h1 : ((decide (1 ≤ x.length) && decide (x.length ≤ 8)) && x.cps.toList.all inAz) = true := h
  simp only [Bool.and_eq_true, decide_eq_true_eq, List.all_eq_true] at h1
  refine ⟨h1.1.2, fun c hc => ?_⟩
  have h2 := of_decide_eq_true (h1.2 c hc)
  have : ∀ z ∈ az, z < 128 := by decide +kernel
  exact this c h2
section
variable {P : Program} {w : World} {K : PySem.W.Frag} {mg : Str → Option Value} {base : Heap}
/-- what len of a list or tuple asks -/
theorem scName : FnScope ["_law_pot_here", "_law_letters", "_law_turn"] ["_law_pot_here"] (defScope sName) :=
  ⟨rfl, rfl, rfl, by decide +kernel, rfl, by decide +kernel, by decide +kernel⟩
def spNm : Sp := fun vs H Q _ => ∃ p : Addr, vs = [.ref p] ∧ PotAt H p ∧
  ∀ H' (x : Str), PotAt H' p → But p H H' → nameV (.str x) = true → Q (.str x) H'
theorem ok_name {f fD : Addr} {fd fdD : FuncData} {k : Nat} (F : Fun K "_law_name" "_law_name" sName f fd)
    (FD : Fun K "_law_draw" "_law_draw" sDraw fD fdD) (bD : Binds K fdD ["_law_pot_here", "_law_many"] [])
    (gD : mg "_law_draw" = some (.ref fD)) (md : mg "divmod" = none) (mr : mg "range" = none) :
    FnOk P w K mg base CX0 (k + 2) f fd ["_law_pot_here"] spNm := by
  have GD : FnOk P w K mg base CX0 (k + 1) fD fdD ["_law_pot_here", "_law_many"] spDraw := ok_draw FD md
  refine F.ok scName (fun vs H Q E h => ?_) (fun cdv A outer s H vs Q E hr h => ?_)
  · obtain ⟨a, rfl, _⟩ := h
    rfl
  · obtain ⟨p, rfl, hp, q⟩ := h
    refine ⟨_, pss_cons (ps_set (i := 1) scName.nd rfl (.inr rfl) pe_str)
      (pss_one (ps_ret (pe_join pe_str (pe_lc (own := [("_law_turn", 2)]) (g := gName 2) (tt := tYes) rfl scName.nd
        (pi_range1 rfl mr (pa_cons (pe_ix ix_list (pe_lst (pa_cons pe_int (pa_cons pe_int (pa_cons pe_int pa_nil))))
          (pe_call GD hr (by rfl) gD FD.kp bD .nil pass0 (pa_cons (pv 0) (pa_cons pe_int pa_nil))) (fun _ _ => rfl)) pa_nil))
        (blkOk_by (own := [("_law_turn", 2)]) (N := ["_law_pot_here", "_law_letters", "_law_turn"]) (sc := defScope sName) (by decide +kernel))
        (fun _ _ _ _ _ => pg_name (i := 2) scName.nd rfl (Or.inl rfl)) (fun _ _ _ _ _ => pts_nil)
        (fun _ _ _ _ _ => pe_ix ix_str (pv 1) (pe_call GD hr (by rfl) gD FD.kp bD .nil pass0 (pa_cons (pv 0) (pa_cons pe_int pa_nil))) (fun _ _ => rfl)))))), ?_⟩
    refine ⟨⟨_, rfl⟩, (by decide : 3 ≤ sizeLine), fun l nl => ?_⟩
    have nlp : p ≠ l := by
      obtain ⟨_, _, e, _⟩ := hp
      exact ne_of_none e nl
    refine ⟨.ref p, rfl, p, 3, rfl, hp.same (same_new nl), by decide, by decide, fun H2 d2 b1 b2 hp2 s2 => ?_⟩
    have hl : H2 l = some (.lst [.int 1, .int 2, .int 8]) := s2 _ _ nlp.symm upd_same
    obtain ⟨n, hn, n0, n1⟩ : ∃ n : Int, atI [V.int 1, V.int 2, V.int 8] d2 = some (.int n) ∧ 1 ≤ n ∧ n ≤ 8 := by
      have : d2 = 0 ∨ d2 = 1 ∨ d2 = 2 := by omega
      rcases this with rfl | rfl | rfl
      · exact ⟨1, rfl, by decide, by decide⟩
      · exact ⟨2, rfl, by decide, by decide⟩
      · exact ⟨8, rfl, by decide, by decide⟩
    refine ⟨l, _, d2, .int n, rfl, rfl, .inl (.inl hl), hn, n, rfl, by omega, by omega, fun D nD => ?_⟩
    have nDp : p ≠ D := by
      obtain ⟨_, _, e, _⟩ := hp2
      exact ne_of_none e nD
    have bt : But p H H2 := (But.of_same (same_new nl)).trans s2
    refine lc_range (lo := 0) (n := n.toNat) (fun i H3 => ∃ ys : List Str, H3 D = some (.lst (ys.map V.str)) ∧ ys.length = i ∧ (∀ y ∈ ys, ∃ c, c ∈ az ∧ y = ⟨#[c]⟩) ∧ PotAt H3 p ∧ But p H2 H3)
      ⟨[], upd_same, rfl, fun y hy => (nomatch hy), hp2.same (same_new nD), But.of_same (same_new nD)⟩ (fun i H3 hi hP => ?_) (fun H3 hP => ?_)
    · obtain ⟨ys, e1, e2, e3, e4, e5⟩ := hP
      refine ⟨rfl, _, rfl, .ref p, rfl, p, 26, rfl, e4, by decide, by decide, fun H4 d c1 c2 hp4 s4 => ?_⟩
      obtain ⟨c, hc, hm⟩ := atI_some (L := ("abcdefghijklmnopqrstuvwxyz" : Str).cps.toList) c1 (by
        have : ("abcdefghijklmnopqrstuvwxyz" : Str).cps.toList.length = 26 := by decide +kernel
        omega)
      refine ⟨_, d, c, rfl, rfl, (by decide +kernel : ("abcdefghijklmnopqrstuvwxyz" : Str).length ≤ sizeLine), hc, _, s4 _ _ nDp.symm e1, ?_, ?_⟩
      · rw [List.length_map]
        exact sz1 (by omega)
      · refine ⟨ys ++ [⟨#[c]⟩], ?_, ?_, ?_, ?_, ?_⟩
        · rw [upd_same, List.map_append]
          rfl
        · rw [List.length_append, e2]
          rfl
        · intro y hy
          rcases List.mem_append.mp hy with z | z
          · exact e3 y z
          · exact ⟨c, hm, List.mem_singleton.mp z⟩
        · obtain ⟨r, g, e, h⟩ := hp4
          exact ⟨r, g, by rw [upd_ne nDp]; exact e, h⟩
        · intro b o nb hb
          rw [upd_ne (ne_of_none hb nD)]
          exact s4 b o nb (e5 b o nb hb)
    · obtain ⟨ys, e1, e2, e3, e4, e5⟩ := hP
      obtain ⟨j1, j2⟩ := join_az ys e3
      refine ⟨_, D, ys, rfl, rfl, .inl (.inl (.inl e1)), ?_, ?_⟩
      · have : ∀ zs : List Str, (∀ y ∈ zs, ∃ c, c ∈ az ∧ y = ⟨#[c]⟩) → (zs.map (·.length)).sum = zs.length := by
          intro zs
          induction zs with
          | nil => intro _; rfl
          | cons y r ih =>
            intro hy
            obtain ⟨c, _, h1⟩ := hy y (List.mem_cons_self ..)
            have h2 := ih fun z hz => hy z (List.mem_cons_of_mem _ hz)
            simp only [List.map_cons, List.sum_cons, List.length_cons, h2]
            have h3 : y.length = 1 := by
              rw [h1]
              rfl
            omega
        have h1 := this ys e3
        have h2 : ("" : Str).length = 0 := by decide +kernel
        rw [h2]
        omega
      · refine q _ _ e4 (bt.trans e5) ?_
        show ((decide (1 ≤ (Txt.join "" ys).length) && decide ((Txt.join "" ys).length ≤ 8)) && (Txt.join "" ys).cps.toList.all inAz) = true
        rw [decide_eq_true (by omega : 1 ≤ (Txt.join "" ys).length), decide_eq_true (by omega : (Txt.join "" ys).length ≤ 8), Bool.true_and, Bool.true_and, List.all_eq_true]
        intro c hc
        exact decide_eq_true (j2 c hc)
end
end Lw
namespace Lw
open PySem PySem.Spec PyProof.Rows L2 Kv
theorem shaped2 (b : Bool) : SeqAt.shaped (.list [.str (PyData.shown (.bool b)), .str (PyData.shown (.bool b))]) = true := by
  cases b <;> decide +kernel
theorem eqv2 (b : Bool) : PyData.eqv (.list [.str (PyData.shown (.bool b)), .str (PyData.shown (.bool b))]) (.list [.str (PyData.shown (.bool b)), .str (PyData.shown (.bool b))]) = true := by
  cases b <;> decide +kernel
section
variable {P : Program} {w : World} {K : PySem.W.Frag} {mg : Str → Option Value} {base : Heap}
def spRight (K : PySem.W.Frag) : Sp := fun vs H Q _ => ∃ (v : V) (n : Int), vs = [v, .int n] ∧ GoodN 9000 20 K H v ∧
  ∀ H', Same H H' → Q (.bl true) H'
theorem ok_right {f fD fP : Addr} {fd fdD fdP : FuncData} {k : Nat} (F : Fun K "_law_right" "_law_right" sRight f fd)
    (FD : Fun K "_law_is_body" "_law_is_body" sLBody fD fdD) (bD : Binds K fdD ["_law_thing", "_law_amount"] []) (gD : mg "_law_is_body" = some (.ref fD))
    (FP : Fun K "is_body" "is_body" sIsBody fP fdP) (bP : Binds K fdP ["value", "count"] []) (gP : mg "is_body" = some (.ref fP))
    (GD : FnOk P w K mg base CX0 (k + 4) fD fdD ["_law_thing", "_law_amount"] (spBody K)) (GP : FnOk P w K mg base CX0 (k + 5) fP fdP ["value", "count"] (spBody K))
    (mp : mg "repr" = none) : FnG P w K mg base CX0 (k + 6) f fd ["_law_thing", "_law_amount"] (spRight K) := by
  refine okG F scRight (fun vs H Q E h => ?_) (fun cdv A outer s H vs Q E hg hr h => ?_)
  · obtain ⟨v, n, rfl, _⟩ := h
    rfl
  · obtain ⟨v, n, rfl, ⟨d, sh, hf⟩, fin⟩ := h
    have hrD := hr.mono (by omega : k + 4 ≤ k + 5)
    refine ⟨_, pss_cons (ps_par (by rfl) scRight.nd rfl rfl (i := 2) (j := 3) (by decide) rfl rfl
        (pa_cons (pe_callB (call_reprD hg hr.units) (by rfl) mp (by decide +kernel) (pa_cons (pv 0) pa_nil))
        (pa_cons (pe_callB (call_reprD hg hr.units) (by rfl) mp (by decide +kernel) (pa_cons (pe_call GD hrD (by rfl) gD FD.kp bD .nil pass0 (pa_cons (pv 0) (pa_cons (pv 1) pa_nil))) pa_nil)) pa_nil)) (by rfl))
      (pss_cons (ps_set (i := 4) scRight.nd rfl (.inl rfl) (pe_lst (pa_cons (pe_call GP hr (by rfl) gP FP.kp bP .nil pass0 (pa_cons (pv 0) (pa_cons (pv 1) pa_nil)))
        (pa_cons (pe_kwOnly GP hr (by rfl) gP FP.kp (kb_body FP) pass0 (pk_cons (pv 1) (pk_cons (pv 0) pk_nil))) pa_nil))))
      (pss_one (ps_ret (pe_and (pe_cmpR (op_eqD hr.units)
          (pe_lc (own := [("_law_one", 5)]) (g := gName 5) (tt := tYes) (te := tCB (rRepr K) (tCons (tVar 5) tNil)) rfl scRight.nd (pi_list (pv 4))
            (blkOk_by (own := [("_law_one", 5)]) (N := NRight) (sc := defScope sRight) (by decide +kernel))
            (fun _ _ _ _ _ => pg_name (i := 5) scRight.nd rfl (Or.inl rfl)) (fun _ _ _ _ _ => pts_nil)
            (fun _ _ _ _ _ => pe_callB (call_reprD hg hr.units) (by rfl) mp (by decide +kernel) (pa_cons (pv 5) pa_nil)))
          (pe_lst (pa_cons (pv 3) (pa_cons (pv 3) pa_nil))) (nomark _))
        (pe_one (pe_cmpR op_eq (pe_callB (call_reprD hg hr.units) (by rfl) mp (by decide +kernel) (pa_cons (pv 0) pa_nil)) (pv 2) (nomark _))))))), ?_⟩
    obtain ⟨f1, f2, f3⟩ := hf.ok (by decide) (by decide)
    obtain ⟨bb, hbb⟩ : ∃ bb, bb = bodyD n d := ⟨_, rfl⟩
    obtain ⟨c1, c2, c3⟩ := (fit_bl (b := bb)).ok (by decide) (by decide)
    refine ⟨v, rfl, false, v, d, rfl, sh, f1, f2, f3, v, rfl, .int n, rfl, v, false, d, n, rfl, sh, hf, fun H1 s1 => ?_⟩
    rw [← hbb]
    refine ⟨true, .bl bb, .bool bb, rfl, .bl bb, c1, c2, c3, _, _, rfl, ?_⟩
    refine ⟨v, rfl, .int n, rfl, v, false, d, n, rfl, sh.same s1, hf, fun H2 s2 => ?_⟩
    have s12 := s1.trans s2
    refine ⟨.int n, rfl, v, rfl, v, false, d, n, rfl, sh.same s12, hf, fun H3 s3 => ?_⟩
    rw [← hbb]
    have s13 := s12.trans s3
    refine ⟨(by decide : 2 ≤ sizeLine), fun l nl => ?_⟩
    have sl := same_new (o := .lst [.bl bb, .bl bb]) nl
    refine ⟨.ref l, rfl, l, rfl, ⟨_, .inl (.inl upd_same)⟩, fun D nD => ?_⟩
    have lD : l ≠ D := fun z => by
      rw [← z, upd_same] at nD
      cases nD
    refine lc_list (xs := [V.bl bb, V.bl bb]) (fun j H5 => H5 = upd (upd H3 l (.lst [.bl bb, .bl bb])) D (.lst (List.replicate j (.str (PyData.shown (.bool bb)))))) rfl
      (fun j H5 _ hP => ?_) (fun j y H5 hy hP => ?_) (fun H5 hP => ?_)
    · subst hP
      exact .inl (.inl (by rw [upd_ne lD, upd_same]))
    · subst hP
      have hj : j < 2 := (List.getElem?_eq_some_iff.mp hy).1
      have ey : y = .bl bb := by
        have : j = 0 ∨ j = 1 := by omega
        rcases this with rfl | rfl
        · exact (Option.some.inj hy).symm
        · exact (Option.some.inj hy).symm
      subst ey
      refine ⟨rfl, .bl bb, rfl, true, .bl bb, .bool bb, rfl, .bl bb, c1, c2, c3, _, upd_same, ?_, ?_⟩
      · rw [List.length_replicate]
        exact sz1 (by omega)
      · rw [upd_upd, List.replicate_succ']
    · subst hP
      have sD := same_new (o := .lst [.str (PyData.shown (.bool bb)), .str (PyData.shown (.bool bb))]) nD
      refine ⟨.str (PyData.shown (.bool bb)), rfl, .str (PyData.shown (.bool bb)), rfl, (by decide : 2 ≤ sizeLine), fun l3 nl3 => ?_⟩
      have s3b := same_new (o := .lst [.str (PyData.shown (.bool bb)), .str (PyData.shown (.bool bb))]) nl3
      refine ⟨.list [.str (PyData.shown (.bool bb)), .str (PyData.shown (.bool bb))], .list [.str (PyData.shown (.bool bb)), .str (PyData.shown (.bool bb))],
        .lst (.inl (.inl (s3b _ _ upd_same))) (.cons (.str _) (.cons (.str _) .nil)), .lst (.inl (.inl upd_same)) (.cons (.str _) (.cons (.str _) .nil)), shaped2 bb, shaped2 bb, _, rfl, ?_⟩
      rw [if_pos (eqv2 bb)]
      have sm := s13.trans (sl.trans (sD.trans s3b))
      refine ⟨v, rfl, false, v, d, rfl, sh.same sm, f1, f2, f3, .str d.shown, rfl, rfl, ?_⟩
      rw [decide_eq_true rfl]
      exact fin _ sm
end
end Lw
namespace Lw
open PySem PySem.Spec PyProof.Rows L2 Kv
/-- new places -/
def NewAt (H : Hp) : Addr → Prop := fun a => H a = none ∧ a ≠ sysModules
theorem but_free {p c : Addr} {H H1 : Hp} (hp : PotAt H1 p) (b : But p H H1) (h : H1 c = none) : H c = none := by
  cases e : H c with
  | none => rfl
  | some o =>
    by_cases z : c = p
    · subst z
      obtain ⟨_, _, e2, _⟩ := hp
      rw [e2] at h
      cases h
    · rw [b _ _ z e] at h
      cases h
theorem ShO.mono {ok ok' : Addr → Prop} {H : Hp} (h : ∀ a, ok a → ok' a) : ∀ {v : V} {d : PyData}, ShO ok H v d → ShO ok' H v d := by
  intro v d s
  exact ShO.rec (motive_1 := fun v d _ => ShO ok' H v d) (motive_2 := fun vs ds _ => ShOs ok' H vs ds) .non .bl .int .str
    (fun h1 h2 _ ih => .lst h1 (h _ h2) ih) (fun h1 _ ih => .tup h1 ih) (fun h1 _ _ i1 i2 => .dict h1 i1 i2) .nil (fun _ _ i1 i2 => .cons i1 i2) s
theorem scOddA : FnScope ["_law_pot_here", "_law_amount", "_law_options"] ["_law_pot_here", "_law_amount"] (defScope sOddA) :=
  ⟨rfl, rfl, rfl, by decide +kernel, rfl, by decide +kernel, by decide +kernel⟩
theorem scOddS : FnScope ["_law_pot_here", "_law_amount", "_law_odd", "_law_options"] ["_law_pot_here", "_law_amount"] (defScope sOddS) :=
  ⟨rfl, rfl, rfl, by decide +kernel, rfl, by decide +kernel, by decide +kernel⟩
section
variable {P : Program} {w : World} {K : PySem.W.Frag} {mg : Str → Option Value} {base : Heap}
def spOddA : Sp := fun vs H Q _ => ∃ (p : Addr) (n : Int), vs = [.ref p, .int n] ∧ PotAt H p ∧ 1 ≤ n ∧ n ≤ 3 ∧
  ∀ H' v d, PotAt H' p → But p H H' → ShO (NewAt H) H' v d → Fit 500 5 d → Q v H'
theorem ok_odda {f fD : Addr} {fd fdD : FuncData} {k : Nat} (F : Fun K "_law_odd_argument" "_law_odd_argument" sOddA f fd) (low : sysModules < base.objs.size)
    (FD : Fun K "_law_draw" "_law_draw" sDraw fD fdD) (bD : Binds K fdD ["_law_pot_here", "_law_many"] []) (gD : mg "_law_draw" = some (.ref fD))
    (GD : FnOk P w K mg base CX0 (k + 1) fD fdD ["_law_pot_here", "_law_many"] spDraw) (ml : mg "len" = none) :
    FnOk P w K mg base CX0 (k + 2) f fd ["_law_pot_here", "_law_amount"] spOddA := by
  refine F.ok scOddA (fun vs H Q E h => ?_) (fun cdv A outer s H vs Q E hr h => ?_)
  · obtain ⟨p, n, rfl, _⟩ := h
    rfl
  · obtain ⟨p, n, rfl, hp, hn1, hn2, fin⟩ := h
    refine ⟨_, (pss_cons (ps_set (i := 2) scOddA.nd rfl (.inl rfl) (pe_lst (pa_cons pe_non (pa_cons pe_bl (pa_cons pe_bl (pa_cons (pe_un un_neg pe_int) (pa_cons (pv 1) (pa_cons (pe_op op_pow pe_int pe_int) (pa_cons pe_str (pa_cons pe_str (pa_cons pe_str (pa_cons pe_str (pa_cons (pe_tup pa_nil) (pa_cons (pe_lstN low pa_nil) (pa_cons pe_dnewK (pa_cons (pe_tup (pa_cons pe_int pa_nil)) (pa_cons pe_str pa_nil)))))))))))))))))
      (pss_one (ps_ret (pe_ix ix_list (pv 2) (pe_call GD hr (by rfl) gD FD.kp bD .nil pass0 (pa_cons (pv 0) (pa_cons (pe_callB call_len_seq (by rfl) ml PySem.boot_len (pa_cons (pv 2) pa_nil)) pa_nil))) (fun _ _ => rfl))))), ?_⟩
    refine ⟨_, rfl, .int n, rfl, 10, 30, rfl, rfl, ⟨by decide, by decide, by decide⟩, (by decide : 0 ≤ sizeLine), fun c1 n1 => ?_⟩
    have t1 := same_new (o := .tup []) n1
    have a1 : (upd H c1 (.tup [])) c1 = some (.tup []) := upd_same
    generalize upd H c1 (.tup []) = G1 at t1 a1 ⊢
    have F1 := t1
    refine ⟨(by decide : 0 ≤ sizeLine), fun c2 n2 z2 => ?_⟩
    have t2 := same_new (o := .lst []) n2
    have a2 : (upd G1 c2 (.lst [])) c2 = some (.lst []) := upd_same
    generalize upd G1 c2 (.lst []) = G2 at t2 a2 ⊢
    have F2 := F1.trans t2
    refine fun c3 n3 => ?_
    have t3 := same_new (o := .dK []) n3
    have a3 : (upd G2 c3 (.dK [])) c3 = some (.dK []) := upd_same
    generalize upd G2 c3 (.dK []) = G3 at t3 a3 ⊢
    have F3 := F2.trans t3
    refine ⟨(by decide : 1 ≤ sizeLine), fun c4 n4 => ?_⟩
    have t4 := same_new (o := .tup [.int 0]) n4
    have a4 : (upd G3 c4 (.tup [.int 0])) c4 = some (.tup [.int 0]) := upd_same
    generalize upd G3 c4 (.tup [.int 0]) = G4 at t4 a4 ⊢
    have F4 := F3.trans t4
    refine ⟨(by decide : 15 ≤ sizeLine), fun c5 n5 => ?_⟩
    have t5 := same_new (o := .lst [.non, .bl true, .bl false, (fun i : Int => V.int (-i)) 1, .int n, (fun i j : Int => V.int (i ^ j.toNat)) 10 30, .str "", .str "A", .str "nineletters", .str "a b", .ref c1, .ref c2, .ref c3, .ref c4, .str "0"]) n5
    have a5 : (upd G4 c5 (.lst [.non, .bl true, .bl false, (fun i : Int => V.int (-i)) 1, .int n, (fun i j : Int => V.int (i ^ j.toNat)) 10 30, .str "", .str "A", .str "nineletters", .str "a b", .ref c1, .ref c2, .ref c3, .ref c4, .str "0"])) c5 = some (.lst [.non, .bl true, .bl false, (fun i : Int => V.int (-i)) 1, .int n, (fun i j : Int => V.int (i ^ j.toNat)) 10 30, .str "", .str "A", .str "nineletters", .str "a b", .ref c1, .ref c2, .ref c3, .ref c4, .str "0"]) := upd_same
    generalize upd G4 c5 (.lst [.non, .bl true, .bl false, (fun i : Int => V.int (-i)) 1, .int n, (fun i j : Int => V.int (i ^ j.toNat)) 10 30, .str "", .str "A", .str "nineletters", .str "a b", .ref c1, .ref c2, .ref c3, .ref c4, .str "0"]) = G5 at t5 a5 ⊢
    have F5 := F4.trans t5
    generalize hx5 : ([.non, .bl true, .bl false, (fun i : Int => V.int (-i)) 1, .int n, (fun i j : Int => V.int (i ^ j.toNat)) 10 30, .str "", .str "A", .str "nineletters", .str "a b", .ref c1, .ref c2, .ref c3, .ref c4, .str "0"] : List V) = xs5 at a5
    have B5 : Same G5 G5 := Same.refl _
    have B4 := t5.trans B5
    have B3 := t4.trans B4
    have B2 := t3.trans B3
    have B1 := t2.trans B2
    have pne : ∀ {G : Hp} {c : Addr}, Same H G → G c = none → c ≠ p := by
      intro G c sg nc e
      obtain ⟨_, _, e3, _⟩ := hp
      rw [e, sg _ _ e3] at nc
      cases nc
    have hxs : xs5 = ([.non, .bl true, .bl false, (fun i : Int => V.int (-i)) 1, .int n, (fun i j : Int => V.int (i ^ j.toNat)) 10 30, .str "", .str "A", .str "nineletters", .str "a b", .ref c1, .ref c2, .ref c3, .ref c4, .str "0"] : List V) := by
      rw [← hx5]
    have hln : xs5.length = 15 := by
      rw [hxs]
      rfl
    refine ⟨.ref c5, rfl, .ref p, rfl, .ref c5, rfl, c5, _, rfl, .inl (.inl (.inl a5)), p, _, rfl, hp.same F5, by omega, by omega, fun H4 j j1 j2 hp4 s4 => ?_⟩
    have bt : But p H H4 := (But.of_same F5).trans s4
    have E1 := s4 _ _ (pne (Same.refl _) n1) (B1 _ _ a1)
    have E2 := s4 _ _ (pne F1 n2) (B2 _ _ a2)
    have o2 : NewAt H c2 := ⟨F1.free n2, z2⟩
    have E3 := s4 _ _ (pne F2 n3) (B3 _ _ a3)
    have E4 := s4 _ _ (pne F3 n4) (B4 _ _ a4)
    have E5 := s4 _ _ (pne F4 n5) (B5 _ _ a5)
    have lit : ∀ x : Str, x ∈ (["", "0", "A", "a b", "nineletters"] : List Str) → Sm 20 x := by
      intro x hx
      have h1 : ∀ y ∈ (["", "0", "A", "a b", "nineletters"] : List Str), y.length ≤ 20 := by decide +kernel
      have h2 : ∀ y ∈ (["", "0", "A", "a b", "nineletters"] : List Str), ∀ c ∈ y.cps.toList, c < 128 := by decide +kernel
      exact ⟨h1 x hx, h2 x hx⟩
    have ab : n.natAbs ≤ 10 ^ 60 := by
      have : n.natAbs ≤ 3 := by omega
      exact Nat.le_trans this (by decide)
    have gd : ∀ v, atI xs5 j = some v → ∃ d, ShO (NewAt H) H4 v d ∧ Fit 500 5 d := by
      intro v hv
      rw [hxs] at hv
      have : j = 0 ∨ j = 1 ∨ j = 2 ∨ j = 3 ∨ j = 4 ∨ j = 5 ∨ j = 6 ∨ j = 7 ∨ j = 8 ∨ j = 9 ∨ j = 10 ∨ j = 11 ∨ j = 12 ∨ j = 13 ∨ j = 14 := by omega
      rcases this with rfl | rfl | rfl | rfl | rfl | rfl | rfl | rfl | rfl | rfl | rfl | rfl | rfl | rfl | rfl <;> cases hv
      · exact ⟨_, .non, Fit.mono (fit_non.mono (Nat.le_refl _) (Nat.zero_le 5)) (by decide) (by decide)⟩
      · exact ⟨_, (.bl true), Fit.mono (fit_bl.mono (Nat.le_refl _) (Nat.zero_le 5)) (by decide) (by decide)⟩
      · exact ⟨_, (.bl false), Fit.mono (fit_bl.mono (Nat.le_refl _) (Nat.zero_le 5)) (by decide) (by decide)⟩
      · exact ⟨_, (.int (-1)), Fit.mono ((fit_int (by decide)).mono (Nat.le_refl _) (Nat.zero_le 5)) (by decide) (by decide)⟩
      · exact ⟨_, (.int n), Fit.mono ((fit_int ab).mono (Nat.le_refl _) (Nat.zero_le 5)) (by decide) (by decide)⟩
      · exact ⟨_, (.int (10 ^ 30)), Fit.mono ((fit_int (by decide)).mono (Nat.le_refl _) (Nat.zero_le 5)) (by decide) (by decide)⟩
      · exact ⟨_, (.str _), Fit.mono ((lit "" (by simp)).fit.mono (Nat.le_refl _) (Nat.zero_le 5)) (by decide) (by decide)⟩
      · exact ⟨_, (.str _), Fit.mono ((lit "A" (by simp)).fit.mono (Nat.le_refl _) (Nat.zero_le 5)) (by decide) (by decide)⟩
      · exact ⟨_, (.str _), Fit.mono ((lit "nineletters" (by simp)).fit.mono (Nat.le_refl _) (Nat.zero_le 5)) (by decide) (by decide)⟩
      · exact ⟨_, (.str _), Fit.mono ((lit "a b" (by simp)).fit.mono (Nat.le_refl _) (Nat.zero_le 5)) (by decide) (by decide)⟩
      · exact ⟨_, (.tup E1 .nil), Fit.mono (Fit.tup (m := 4) fitAll_nil) (by decide) (by decide)⟩
      · exact ⟨_, (.lst E2 o2 .nil), Fit.mono (Fit.lst (m := 4) fitAll_nil) (by decide) (by decide)⟩
      · exact ⟨_, (.dict (ks := []) (vs := []) E3 .nil .nil), Fit.mono (Fit.dict (m := 4) fitKv_nil) (by decide) (by decide)⟩
      · exact ⟨_, (.tup E4 (.cons (.int 0) .nil)), Fit.mono (Fit.tup (m := 4) (FitAll.cons ((fit_int (by decide)).mono (Nat.le_refl _) (Nat.zero_le 4)) fitAll_nil)) (by decide) (by decide)⟩
      · exact ⟨_, (.str _), Fit.mono ((lit "0" (by simp)).fit.mono (Nat.le_refl _) (Nat.zero_le 5)) (by decide) (by decide)⟩
    obtain ⟨v, hv, _⟩ := atI_some (L := xs5) j1 (by omega)
    obtain ⟨d, hd, hf⟩ := gd v hv
    exact ⟨c5, _, j, v, rfl, rfl, .inl (.inl E5), hv, fin _ _ d hp4 bt hd hf⟩
end
end Lw
namespace Lw
open PySem PySem.Spec PyProof.Rows L2 Kv
section
variable {P : Program} {w : World} {K : PySem.W.Frag} {mg : Str → Option Value} {base : Heap}
def spOddS : Sp := fun vs H Q _ => ∃ (p : Addr) (n : Int), vs = [.ref p, .int n] ∧ PotAt H p ∧ 1 ≤ n ∧ n ≤ 3 ∧
  ∀ H' v d, PotAt H' p → But p H H' → ShO (NewAt H) H' v d → Fit 1400 8 d → Q v H'
theorem ok_odds {f fD fA : Addr} {fd fdD fdA : FuncData} {k : Nat} (F : Fun K "_law_odd_step" "_law_odd_step" sOddS f fd) (low : sysModules < base.objs.size)
    (FD : Fun K "_law_draw" "_law_draw" sDraw fD fdD) (bD : Binds K fdD ["_law_pot_here", "_law_many"] []) (gD : mg "_law_draw" = some (.ref fD))
    (FA : Fun K "_law_odd_argument" "_law_odd_argument" sOddA fA fdA) (bA : Binds K fdA ["_law_pot_here", "_law_amount"] []) (gA : mg "_law_odd_argument" = some (.ref fA))
    (GD : FnOk P w K mg base CX0 (k + 1) fD fdD ["_law_pot_here", "_law_many"] spDraw) (GA : FnOk P w K mg base CX0 (k + 2) fA fdA ["_law_pot_here", "_law_amount"] spOddA) (ml : mg "len" = none) :
    FnOk P w K mg base CX0 (k + 3) f fd ["_law_pot_here", "_law_amount"] spOddS := by
  refine F.ok scOddS (fun vs H0 Q E h => ?_) (fun cdv A outer s H0 vs Q E hr h => ?_)
  · obtain ⟨p, n, rfl, _⟩ := h
    rfl
  · obtain ⟨p, n, rfl, hp0, hn1, hn2, fin⟩ := h
    have hrD := hr.mono (by omega : k + 1 ≤ k + 2)
    refine ⟨_, (pss_cons (ps_set (i := 2) scOddS.nd rfl (.inl rfl) (pe_call GA hr (by rfl) gA FA.kp bA .nil pass0 (pa_cons (pv 0) (pa_cons (pv 1) pa_nil))))
      (pss_cons (ps_set (i := 3) scOddS.nd rfl (.inl rfl) (pe_lst (pa_cons pe_non (pa_cons pe_int (pa_cons pe_str (pa_cons pe_str (pa_cons (pe_tup pa_nil) (pa_cons (pe_lstN low pa_nil) (pa_cons pe_dnewK (pa_cons (pe_tup (pa_cons pe_str (pa_cons pe_str pa_nil))) (pa_cons (pe_lstN low (pa_cons pe_str pa_nil)) (pa_cons (pe_tup (pa_cons pe_str pa_nil)) (pa_cons (pe_tup (pa_cons pe_str (pa_cons (pv 2) pa_nil))) (pa_cons (pe_tup (pa_cons pe_str (pa_cons pe_str pa_nil))) pa_nil))))))))))))))
      (pss_cons (ps_set (i := 3) scOddS.nd rfl (.inl rfl) (pe_op op_cat (pv 3) (pe_lst (pa_cons (pe_tup (pa_cons pe_str (pa_cons pe_str (pa_cons pe_str pa_nil)))) (pa_cons (pe_tup (pa_cons pe_str (pa_cons pe_str pa_nil))) (pa_cons (pe_tup (pa_cons pe_str (pa_cons pe_str (pa_cons (pe_tup pa_nil) pa_nil)))) (pa_cons (pe_tup (pa_cons pe_str (pa_cons pe_str (pa_cons (pe_lstN low (pa_cons pe_int pa_nil)) pa_nil)))) (pa_cons (pe_tup (pa_cons pe_str (pa_cons (pv 2) (pa_cons (pe_tup (pa_cons pe_int pa_nil)) pa_nil)))) pa_nil))))))))
      (pss_cons (ps_set (i := 3) scOddS.nd rfl (.inl rfl) (pe_op op_cat (pv 3) (pe_lst (pa_cons (pe_tup (pa_cons pe_str (pa_cons pe_str (pa_cons (pe_tup (pa_cons (pv 2) pa_nil)) pa_nil)))) (pa_cons (pe_tup (pa_cons pe_str (pa_cons pe_str (pa_cons (pe_tup (pa_cons pe_str (pa_cons (pv 2) pa_nil))) pa_nil)))) (pa_cons (pe_tup (pa_cons pe_str (pa_cons pe_str (pa_cons (pe_tup (pa_cons pe_int (pa_cons pe_str (pa_cons pe_int (pa_cons pe_str pa_nil))))) pa_nil)))) (pa_cons (pe_tup (pa_cons pe_str (pa_cons pe_str pa_nil))) pa_nil)))))))
      (pss_cons (ps_set (i := 3) scOddS.nd rfl (.inl rfl) (pe_op op_cat (pv 3) (pe_lst (pa_cons (pe_tup (pa_cons pe_str (pa_cons pe_str (pa_cons (pe_tup (pa_cons pe_int pa_nil)) (pa_cons (pe_tup pa_nil) pa_nil))))) (pa_cons (pe_tup (pa_cons pe_str (pa_cons pe_str (pa_cons (pv 2) pa_nil)))) (pa_cons (pe_tup (pa_cons (pv 2) (pa_cons pe_str pa_nil))) (pa_cons (pe_tup (pa_cons pe_str (pa_cons (pe_tup pa_nil) pa_nil))) (pa_cons (pe_tup (pa_cons pe_str pa_nil)) (pa_cons (pe_tup (pa_cons pe_str pa_nil)) pa_nil)))))))))
      (pss_one (ps_ret (pe_ix ix_list (pv 3) (pe_call GD hrD (by rfl) gD FD.kp bD .nil pass0 (pa_cons (pv 0) (pa_cons (pe_callB call_len_seq (by rfl) ml PySem.boot_len (pa_cons (pv 3) pa_nil)) pa_nil))) (fun _ _ => rfl))))))))), ?_⟩
    refine ⟨.ref p, rfl, .int n, rfl, p, n, rfl, hp0, hn1, hn2, fun H vo dq hp b0 so0 fo => ?_⟩
    obtain ⟨rp, gp, hpe, hpr⟩ := id hp
    have pne0 : ∀ {a : Addr}, H0 a = none → a ≠ p := by
      intro a z e
      obtain ⟨_, _, e3, _⟩ := hp0
      rw [e, e3] at z
      cases z
    have fr : ∀ {a : Addr}, NewAt H a → NewAt H0 a := fun z => ⟨but_free hp b0 z.1, z.2⟩
    refine ⟨(by decide : 0 ≤ sizeLine), fun c1 n1 => ?_⟩
    have t1 := same_new (o := .tup []) n1
    have a1 : (upd H c1 (.tup [])) c1 = some (.tup []) := upd_same
    generalize upd H c1 (.tup []) = G1 at t1 a1 ⊢
    have F1 := t1
    refine ⟨(by decide : 0 ≤ sizeLine), fun c2 n2 z2 => ?_⟩
    have t2 := same_new (o := .lst []) n2
    have a2 : (upd G1 c2 (.lst [])) c2 = some (.lst []) := upd_same
    generalize upd G1 c2 (.lst []) = G2 at t2 a2 ⊢
    have F2 := F1.trans t2
    refine fun c3 n3 => ?_
    have t3 := same_new (o := .dK []) n3
    have a3 : (upd G2 c3 (.dK [])) c3 = some (.dK []) := upd_same
    generalize upd G2 c3 (.dK []) = G3 at t3 a3 ⊢
    have F3 := F2.trans t3
    refine ⟨(by decide : 2 ≤ sizeLine), fun c4 n4 => ?_⟩
    have t4 := same_new (o := .tup [.str "next", .str "a"]) n4
    have a4 : (upd G3 c4 (.tup [.str "next", .str "a"])) c4 = some (.tup [.str "next", .str "a"]) := upd_same
    generalize upd G3 c4 (.tup [.str "next", .str "a"]) = G4 at t4 a4 ⊢
    have F4 := F3.trans t4
    refine ⟨(by decide : 1 ≤ sizeLine), fun c5 n5 z5 => ?_⟩
    have t5 := same_new (o := .lst [.str "next"]) n5
    have a5 : (upd G4 c5 (.lst [.str "next"])) c5 = some (.lst [.str "next"]) := upd_same
    generalize upd G4 c5 (.lst [.str "next"]) = G5 at t5 a5 ⊢
    have F5 := F4.trans t5
    refine ⟨(by decide : 1 ≤ sizeLine), fun c6 n6 => ?_⟩
    have t6 := same_new (o := .tup [.str "say"]) n6
    have a6 : (upd G5 c6 (.tup [.str "say"])) c6 = some (.tup [.str "say"]) := upd_same
    generalize upd G5 c6 (.tup [.str "say"]) = G6 at t6 a6 ⊢
    have F6 := F5.trans t6
    refine ⟨vo, rfl, (by decide : 2 ≤ sizeLine), fun c7 n7 => ?_⟩
    have t7 := same_new (o := .tup [.str "say", vo]) n7
    have a7 : (upd G6 c7 (.tup [.str "say", vo])) c7 = some (.tup [.str "say", vo]) := upd_same
    generalize upd G6 c7 (.tup [.str "say", vo]) = G7 at t7 a7 ⊢
    have F7 := F6.trans t7
    refine ⟨(by decide : 2 ≤ sizeLine), fun c8 n8 => ?_⟩
    have t8 := same_new (o := .tup [.str "Say", .str "a"]) n8
    have a8 : (upd G7 c8 (.tup [.str "Say", .str "a"])) c8 = some (.tup [.str "Say", .str "a"]) := upd_same
    generalize upd G7 c8 (.tup [.str "Say", .str "a"]) = G8 at t8 a8 ⊢
    have F8 := F7.trans t8
    refine ⟨(by decide : 12 ≤ sizeLine), fun c9 n9 => ?_⟩
    have t9 := same_new (o := .lst [.non, .int 0, .str "next", .str "say", .ref c1, .ref c2, .ref c3, .ref c4, .ref c5, .ref c6, .ref c7, .ref c8]) n9
    have a9 : (upd G8 c9 (.lst [.non, .int 0, .str "next", .str "say", .ref c1, .ref c2, .ref c3, .ref c4, .ref c5, .ref c6, .ref c7, .ref c8])) c9 = some (.lst [.non, .int 0, .str "next", .str "say", .ref c1, .ref c2, .ref c3, .ref c4, .ref c5, .ref c6, .ref c7, .ref c8]) := upd_same
    generalize upd G8 c9 (.lst [.non, .int 0, .str "next", .str "say", .ref c1, .ref c2, .ref c3, .ref c4, .ref c5, .ref c6, .ref c7, .ref c8]) = G9 at t9 a9 ⊢
    have F9 := F8.trans t9
    generalize hx9 : ([.non, .int 0, .str "next", .str "say", .ref c1, .ref c2, .ref c3, .ref c4, .ref c5, .ref c6, .ref c7, .ref c8] : List V) = xs9 at a9
    refine ⟨.ref c9, rfl, (by decide : 3 ≤ sizeLine), fun c10 n10 => ?_⟩
    have t10 := same_new (o := .tup [.str "say", .str "a", .str "b"]) n10
    have a10 : (upd G9 c10 (.tup [.str "say", .str "a", .str "b"])) c10 = some (.tup [.str "say", .str "a", .str "b"]) := upd_same
    generalize upd G9 c10 (.tup [.str "say", .str "a", .str "b"]) = G10 at t10 a10 ⊢
    have F10 := F9.trans t10
    refine ⟨(by decide : 2 ≤ sizeLine), fun c11 n11 => ?_⟩
    have t11 := same_new (o := .tup [.str "call", .str "f"]) n11
    have a11 : (upd G10 c11 (.tup [.str "call", .str "f"])) c11 = some (.tup [.str "call", .str "f"]) := upd_same
    generalize upd G10 c11 (.tup [.str "call", .str "f"]) = G11 at t11 a11 ⊢
    have F11 := F10.trans t11
    refine ⟨(by decide : 0 ≤ sizeLine), fun c12 n12 => ?_⟩
    have t12 := same_new (o := .tup []) n12
    have a12 : (upd G11 c12 (.tup [])) c12 = some (.tup []) := upd_same
    generalize upd G11 c12 (.tup []) = G12 at t12 a12 ⊢
    have F12 := F11.trans t12
    refine ⟨(by decide : 3 ≤ sizeLine), fun c13 n13 => ?_⟩
    have t13 := same_new (o := .tup [.str "call", .str "f", .ref c12]) n13
    have a13 : (upd G12 c13 (.tup [.str "call", .str "f", .ref c12])) c13 = some (.tup [.str "call", .str "f", .ref c12]) := upd_same
    generalize upd G12 c13 (.tup [.str "call", .str "f", .ref c12]) = G13 at t13 a13 ⊢
    have F13 := F12.trans t13
    refine ⟨(by decide : 1 ≤ sizeLine), fun c14 n14 z14 => ?_⟩
    have t14 := same_new (o := .lst [.int 0]) n14
    have a14 : (upd G13 c14 (.lst [.int 0])) c14 = some (.lst [.int 0]) := upd_same
    generalize upd G13 c14 (.lst [.int 0]) = G14 at t14 a14 ⊢
    have F14 := F13.trans t14
    refine ⟨(by decide : 3 ≤ sizeLine), fun c15 n15 => ?_⟩
    have t15 := same_new (o := .tup [.str "call", .str "f", .ref c14]) n15
    have a15 : (upd G14 c15 (.tup [.str "call", .str "f", .ref c14])) c15 = some (.tup [.str "call", .str "f", .ref c14]) := upd_same
    generalize upd G14 c15 (.tup [.str "call", .str "f", .ref c14]) = G15 at t15 a15 ⊢
    have F15 := F14.trans t15
    refine ⟨vo, rfl, (by decide : 1 ≤ sizeLine), fun c16 n16 => ?_⟩
    have t16 := same_new (o := .tup [.int 0]) n16
    have a16 : (upd G15 c16 (.tup [.int 0])) c16 = some (.tup [.int 0]) := upd_same
    generalize upd G15 c16 (.tup [.int 0]) = G16 at t16 a16 ⊢
    have F16 := F15.trans t16
    refine ⟨(by decide : 3 ≤ sizeLine), fun c17 n17 => ?_⟩
    have t17 := same_new (o := .tup [.str "call", vo, .ref c16]) n17
    have a17 : (upd G16 c17 (.tup [.str "call", vo, .ref c16])) c17 = some (.tup [.str "call", vo, .ref c16]) := upd_same
    generalize upd G16 c17 (.tup [.str "call", vo, .ref c16]) = G17 at t17 a17 ⊢
    have F17 := F16.trans t17
    refine ⟨(by decide : 5 ≤ sizeLine), fun c18 n18 => ?_⟩
    have t18 := same_new (o := .lst [.ref c10, .ref c11, .ref c13, .ref c15, .ref c17]) n18
    have a18 : (upd G17 c18 (.lst [.ref c10, .ref c11, .ref c13, .ref c15, .ref c17])) c18 = some (.lst [.ref c10, .ref c11, .ref c13, .ref c15, .ref c17]) := upd_same
    generalize upd G17 c18 (.lst [.ref c10, .ref c11, .ref c13, .ref c15, .ref c17]) = G18 at t18 a18 ⊢
    have F18 := F17.trans t18
    generalize hx18 : ([.ref c10, .ref c11, .ref c13, .ref c15, .ref c17] : List V) = xs18 at a18
    refine ⟨c9, c18, _, _, rfl, rfl, (t18 _ _ (t17 _ _ (t16 _ _ (t15 _ _ (t14 _ _ (t13 _ _ (t12 _ _ (t11 _ _ (t10 _ _ (a9)))))))))), a18, (by rw [← hx9, ← hx18]; exact (by decide : 12 + 5 ≤ sizeLine)), fun c19 n19 => ?_⟩
    have t19 := same_new (o := .lst (xs9 ++ xs18)) n19
    have a19 : (upd G18 c19 (.lst (xs9 ++ xs18))) c19 = some (.lst (xs9 ++ xs18)) := upd_same
    generalize upd G18 c19 (.lst (xs9 ++ xs18)) = G19 at t19 a19 ⊢
    have F19 := F18.trans t19
    generalize hx19 : xs9 ++ xs18 = xs19 at a19
    refine ⟨.ref c19, rfl, vo, rfl, (by decide : 1 ≤ sizeLine), fun c20 n20 => ?_⟩
    have t20 := same_new (o := .tup [vo]) n20
    have a20 : (upd G19 c20 (.tup [vo])) c20 = some (.tup [vo]) := upd_same
    generalize upd G19 c20 (.tup [vo]) = G20 at t20 a20 ⊢
    have F20 := F19.trans t20
    refine ⟨(by decide : 3 ≤ sizeLine), fun c21 n21 => ?_⟩
    have t21 := same_new (o := .tup [.str "call", .str "f", .ref c20]) n21
    have a21 : (upd G20 c21 (.tup [.str "call", .str "f", .ref c20])) c21 = some (.tup [.str "call", .str "f", .ref c20]) := upd_same
    generalize upd G20 c21 (.tup [.str "call", .str "f", .ref c20]) = G21 at t21 a21 ⊢
    have F21 := F20.trans t21
    refine ⟨vo, rfl, (by decide : 2 ≤ sizeLine), fun c22 n22 => ?_⟩
    have t22 := same_new (o := .tup [.str "a", vo]) n22
    have a22 : (upd G21 c22 (.tup [.str "a", vo])) c22 = some (.tup [.str "a", vo]) := upd_same
    generalize upd G21 c22 (.tup [.str "a", vo]) = G22 at t22 a22 ⊢
    have F22 := F21.trans t22
    refine ⟨(by decide : 3 ≤ sizeLine), fun c23 n23 => ?_⟩
    have t23 := same_new (o := .tup [.str "call", .str "f", .ref c22]) n23
    have a23 : (upd G22 c23 (.tup [.str "call", .str "f", .ref c22])) c23 = some (.tup [.str "call", .str "f", .ref c22]) := upd_same
    generalize upd G22 c23 (.tup [.str "call", .str "f", .ref c22]) = G23 at t23 a23 ⊢
    have F23 := F22.trans t23
    refine ⟨(by decide : 4 ≤ sizeLine), fun c24 n24 => ?_⟩
    have t24 := same_new (o := .tup [.int 0, .str "a", .int 0, .str "a"]) n24
    have a24 : (upd G23 c24 (.tup [.int 0, .str "a", .int 0, .str "a"])) c24 = some (.tup [.int 0, .str "a", .int 0, .str "a"]) := upd_same
    generalize upd G23 c24 (.tup [.int 0, .str "a", .int 0, .str "a"]) = G24 at t24 a24 ⊢
    have F24 := F23.trans t24
    refine ⟨(by decide : 3 ≤ sizeLine), fun c25 n25 => ?_⟩
    have t25 := same_new (o := .tup [.str "call", .str "f", .ref c24]) n25
    have a25 : (upd G24 c25 (.tup [.str "call", .str "f", .ref c24])) c25 = some (.tup [.str "call", .str "f", .ref c24]) := upd_same
    generalize upd G24 c25 (.tup [.str "call", .str "f", .ref c24]) = G25 at t25 a25 ⊢
    have F25 := F24.trans t25
    refine ⟨(by decide : 2 ≤ sizeLine), fun c26 n26 => ?_⟩
    have t26 := same_new (o := .tup [.str "a", .str "a"]) n26
    have a26 : (upd G25 c26 (.tup [.str "a", .str "a"])) c26 = some (.tup [.str "a", .str "a"]) := upd_same
    generalize upd G25 c26 (.tup [.str "a", .str "a"]) = G26 at t26 a26 ⊢
    have F26 := F25.trans t26
    refine ⟨(by decide : 4 ≤ sizeLine), fun c27 n27 => ?_⟩
    have t27 := same_new (o := .lst [.ref c21, .ref c23, .ref c25, .ref c26]) n27
    have a27 : (upd G26 c27 (.lst [.ref c21, .ref c23, .ref c25, .ref c26])) c27 = some (.lst [.ref c21, .ref c23, .ref c25, .ref c26]) := upd_same
    generalize upd G26 c27 (.lst [.ref c21, .ref c23, .ref c25, .ref c26]) = G27 at t27 a27 ⊢
    have F27 := F26.trans t27
    generalize hx27 : ([.ref c21, .ref c23, .ref c25, .ref c26] : List V) = xs27 at a27
    refine ⟨c19, c27, _, _, rfl, rfl, (t27 _ _ (t26 _ _ (t25 _ _ (t24 _ _ (t23 _ _ (t22 _ _ (t21 _ _ (t20 _ _ (a19))))))))), a27, (by rw [← hx19, ← hx27, ← hx9, ← hx18]; exact (by decide : 17 + 4 ≤ sizeLine)), fun c28 n28 => ?_⟩
    have t28 := same_new (o := .lst (xs19 ++ xs27)) n28
    have a28 : (upd G27 c28 (.lst (xs19 ++ xs27))) c28 = some (.lst (xs19 ++ xs27)) := upd_same
    generalize upd G27 c28 (.lst (xs19 ++ xs27)) = G28 at t28 a28 ⊢
    have F28 := F27.trans t28
    generalize hx28 : xs19 ++ xs27 = xs28 at a28
    refine ⟨.ref c28, rfl, (by decide : 1 ≤ sizeLine), fun c29 n29 => ?_⟩
    have t29 := same_new (o := .tup [.int 0]) n29
    have a29 : (upd G28 c29 (.tup [.int 0])) c29 = some (.tup [.int 0]) := upd_same
    generalize upd G28 c29 (.tup [.int 0]) = G29 at t29 a29 ⊢
    have F29 := F28.trans t29
    refine ⟨(by decide : 0 ≤ sizeLine), fun c30 n30 => ?_⟩
    have t30 := same_new (o := .tup []) n30
    have a30 : (upd G29 c30 (.tup [])) c30 = some (.tup []) := upd_same
    generalize upd G29 c30 (.tup []) = G30 at t30 a30 ⊢
    have F30 := F29.trans t30
    refine ⟨(by decide : 4 ≤ sizeLine), fun c31 n31 => ?_⟩
    have t31 := same_new (o := .tup [.str "call", .str "f", .ref c29, .ref c30]) n31
    have a31 : (upd G30 c31 (.tup [.str "call", .str "f", .ref c29, .ref c30])) c31 = some (.tup [.str "call", .str "f", .ref c29, .ref c30]) := upd_same
    generalize upd G30 c31 (.tup [.str "call", .str "f", .ref c29, .ref c30]) = G31 at t31 a31 ⊢
    have F31 := F30.trans t31
    refine ⟨vo, rfl, (by decide : 3 ≤ sizeLine), fun c32 n32 => ?_⟩
    have t32 := same_new (o := .tup [.str "call", .str "f", vo]) n32
    have a32 : (upd G31 c32 (.tup [.str "call", .str "f", vo])) c32 = some (.tup [.str "call", .str "f", vo]) := upd_same
    generalize upd G31 c32 (.tup [.str "call", .str "f", vo]) = G32 at t32 a32 ⊢
    have F32 := F31.trans t32
    refine ⟨vo, rfl, (by decide : 2 ≤ sizeLine), fun c33 n33 => ?_⟩
    have t33 := same_new (o := .tup [vo, .str "a"]) n33
    have a33 : (upd G32 c33 (.tup [vo, .str "a"])) c33 = some (.tup [vo, .str "a"]) := upd_same
    generalize upd G32 c33 (.tup [vo, .str "a"]) = G33 at t33 a33 ⊢
    have F33 := F32.trans t33
    refine ⟨(by decide : 0 ≤ sizeLine), fun c34 n34 => ?_⟩
    have t34 := same_new (o := .tup []) n34
    have a34 : (upd G33 c34 (.tup [])) c34 = some (.tup []) := upd_same
    generalize upd G33 c34 (.tup []) = G34 at t34 a34 ⊢
    have F34 := F33.trans t34
    refine ⟨(by decide : 2 ≤ sizeLine), fun c35 n35 => ?_⟩
    have t35 := same_new (o := .tup [.str "next", .ref c34]) n35
    have a35 : (upd G34 c35 (.tup [.str "next", .ref c34])) c35 = some (.tup [.str "next", .ref c34]) := upd_same
    generalize upd G34 c35 (.tup [.str "next", .ref c34]) = G35 at t35 a35 ⊢
    have F35 := F34.trans t35
    refine ⟨(by decide : 1 ≤ sizeLine), fun c36 n36 => ?_⟩
    have t36 := same_new (o := .tup [.str "Next"]) n36
    have a36 : (upd G35 c36 (.tup [.str "Next"])) c36 = some (.tup [.str "Next"]) := upd_same
    generalize upd G35 c36 (.tup [.str "Next"]) = G36 at t36 a36 ⊢
    have F36 := F35.trans t36
    refine ⟨(by decide : 1 ≤ sizeLine), fun c37 n37 => ?_⟩
    have t37 := same_new (o := .tup [.str "call"]) n37
    have a37 : (upd G36 c37 (.tup [.str "call"])) c37 = some (.tup [.str "call"]) := upd_same
    generalize upd G36 c37 (.tup [.str "call"]) = G37 at t37 a37 ⊢
    have F37 := F36.trans t37
    refine ⟨(by decide : 6 ≤ sizeLine), fun c38 n38 => ?_⟩
    have t38 := same_new (o := .lst [.ref c31, .ref c32, .ref c33, .ref c35, .ref c36, .ref c37]) n38
    have a38 : (upd G37 c38 (.lst [.ref c31, .ref c32, .ref c33, .ref c35, .ref c36, .ref c37])) c38 = some (.lst [.ref c31, .ref c32, .ref c33, .ref c35, .ref c36, .ref c37]) := upd_same
    generalize upd G37 c38 (.lst [.ref c31, .ref c32, .ref c33, .ref c35, .ref c36, .ref c37]) = G38 at t38 a38 ⊢
    have F38 := F37.trans t38
    generalize hx38 : ([.ref c31, .ref c32, .ref c33, .ref c35, .ref c36, .ref c37] : List V) = xs38 at a38
    refine ⟨c28, c38, _, _, rfl, rfl, (t38 _ _ (t37 _ _ (t36 _ _ (t35 _ _ (t34 _ _ (t33 _ _ (t32 _ _ (t31 _ _ (t30 _ _ (t29 _ _ (a28))))))))))), a38, (by rw [← hx28, ← hx38, ← hx19, ← hx9, ← hx18, ← hx27]; exact (by decide : 21 + 6 ≤ sizeLine)), fun c39 n39 => ?_⟩
    have t39 := same_new (o := .lst (xs28 ++ xs38)) n39
    have a39 : (upd G38 c39 (.lst (xs28 ++ xs38))) c39 = some (.lst (xs28 ++ xs38)) := upd_same
    generalize upd G38 c39 (.lst (xs28 ++ xs38)) = G39 at t39 a39 ⊢
    have F39 := F38.trans t39
    generalize hx39 : xs28 ++ xs38 = xs39 at a39
    have B39 : Same G39 G39 := Same.refl _
    have B38 := t39.trans B39
    have B37 := t38.trans B38
    have B36 := t37.trans B37
    have B35 := t36.trans B36
    have B34 := t35.trans B35
    have B33 := t34.trans B34
    have B32 := t33.trans B33
    have B31 := t32.trans B32
    have B30 := t31.trans B31
    have B29 := t30.trans B30
    have B28 := t29.trans B29
    have B27 := t28.trans B28
    have B26 := t27.trans B27
    have B25 := t26.trans B26
    have B24 := t25.trans B25
    have B23 := t24.trans B24
    have B22 := t23.trans B23
    have B21 := t22.trans B22
    have B20 := t21.trans B21
    have B19 := t20.trans B20
    have B18 := t19.trans B19
    have B17 := t18.trans B18
    have B16 := t17.trans B17
    have B15 := t16.trans B16
    have B14 := t15.trans B15
    have B13 := t14.trans B14
    have B12 := t13.trans B13
    have B11 := t12.trans B12
    have B10 := t11.trans B11
    have B9 := t10.trans B10
    have B8 := t9.trans B9
    have B7 := t8.trans B8
    have B6 := t7.trans B7
    have B5 := t6.trans B6
    have B4 := t5.trans B5
    have B3 := t4.trans B4
    have B2 := t3.trans B3
    have B1 := t2.trans B2
    have pne : ∀ {G : Hp} {c : Addr}, Same H G → G c = none → c ≠ p := by
      intro G c sg nc e
      obtain ⟨_, _, e3, _⟩ := hp
      rw [e, sg _ _ e3] at nc
      cases nc
    have hxs : xs39 = ([.non, .int 0, .str "next", .str "say", .ref c1, .ref c2, .ref c3, .ref c4, .ref c5, .ref c6, .ref c7, .ref c8, .ref c10, .ref c11, .ref c13, .ref c15, .ref c17, .ref c21, .ref c23, .ref c25, .ref c26, .ref c31, .ref c32, .ref c33, .ref c35, .ref c36, .ref c37] : List V) := by
      rw [← hx39, ← hx28, ← hx19, ← hx9, ← hx18, ← hx27, ← hx38]
      rfl
    have hln : xs39.length = 27 := by
      rw [hxs]
      rfl
    refine ⟨.ref c39, rfl, .ref p, rfl, .ref c39, rfl, c39, _, rfl, .inl (.inl (.inl a39)), p, _, rfl, hp.same F39, by omega, by omega, fun H4 j j1 j2 hp4 s4 => ?_⟩
    have bt : But p H H4 := (But.of_same F39).trans s4
    have E1 := s4 _ _ (pne (Same.refl _) n1) (B1 _ _ a1)
    have E2 := s4 _ _ (pne F1 n2) (B2 _ _ a2)
    have o2 : NewAt H0 c2 := fr ⟨F1.free n2, z2⟩
    have E3 := s4 _ _ (pne F2 n3) (B3 _ _ a3)
    have E4 := s4 _ _ (pne F3 n4) (B4 _ _ a4)
    have E5 := s4 _ _ (pne F4 n5) (B5 _ _ a5)
    have o5 : NewAt H0 c5 := fr ⟨F4.free n5, z5⟩
    have E6 := s4 _ _ (pne F5 n6) (B6 _ _ a6)
    have E7 := s4 _ _ (pne F6 n7) (B7 _ _ a7)
    have E8 := s4 _ _ (pne F7 n8) (B8 _ _ a8)
    have E9 := s4 _ _ (pne F8 n9) (B9 _ _ a9)
    have E10 := s4 _ _ (pne F9 n10) (B10 _ _ a10)
    have E11 := s4 _ _ (pne F10 n11) (B11 _ _ a11)
    have E12 := s4 _ _ (pne F11 n12) (B12 _ _ a12)
    have E13 := s4 _ _ (pne F12 n13) (B13 _ _ a13)
    have E14 := s4 _ _ (pne F13 n14) (B14 _ _ a14)
    have o14 : NewAt H0 c14 := fr ⟨F13.free n14, z14⟩
    have E15 := s4 _ _ (pne F14 n15) (B15 _ _ a15)
    have E16 := s4 _ _ (pne F15 n16) (B16 _ _ a16)
    have E17 := s4 _ _ (pne F16 n17) (B17 _ _ a17)
    have E18 := s4 _ _ (pne F17 n18) (B18 _ _ a18)
    have E19 := s4 _ _ (pne F18 n19) (B19 _ _ a19)
    have E20 := s4 _ _ (pne F19 n20) (B20 _ _ a20)
    have E21 := s4 _ _ (pne F20 n21) (B21 _ _ a21)
    have E22 := s4 _ _ (pne F21 n22) (B22 _ _ a22)
    have E23 := s4 _ _ (pne F22 n23) (B23 _ _ a23)
    have E24 := s4 _ _ (pne F23 n24) (B24 _ _ a24)
    have E25 := s4 _ _ (pne F24 n25) (B25 _ _ a25)
    have E26 := s4 _ _ (pne F25 n26) (B26 _ _ a26)
    have E27 := s4 _ _ (pne F26 n27) (B27 _ _ a27)
    have E28 := s4 _ _ (pne F27 n28) (B28 _ _ a28)
    have E29 := s4 _ _ (pne F28 n29) (B29 _ _ a29)
    have E30 := s4 _ _ (pne F29 n30) (B30 _ _ a30)
    have E31 := s4 _ _ (pne F30 n31) (B31 _ _ a31)
    have E32 := s4 _ _ (pne F31 n32) (B32 _ _ a32)
    have E33 := s4 _ _ (pne F32 n33) (B33 _ _ a33)
    have E34 := s4 _ _ (pne F33 n34) (B34 _ _ a34)
    have E35 := s4 _ _ (pne F34 n35) (B35 _ _ a35)
    have E36 := s4 _ _ (pne F35 n36) (B36 _ _ a36)
    have E37 := s4 _ _ (pne F36 n37) (B37 _ _ a37)
    have E38 := s4 _ _ (pne F37 n38) (B38 _ _ a38)
    have E39 := s4 _ _ (pne F38 n39) (B39 _ _ a39)
    have lit : ∀ x : Str, x ∈ (["Next", "Say", "a", "b", "call", "f", "next", "say"] : List Str) → Sm 20 x := by
      intro x hx
      have h1 : ∀ y ∈ (["Next", "Say", "a", "b", "call", "f", "next", "say"] : List Str), y.length ≤ 20 := by decide +kernel
      have h2 : ∀ y ∈ (["Next", "Say", "a", "b", "call", "f", "next", "say"] : List Str), ∀ c ∈ y.cps.toList, c < 128 := by decide +kernel
      exact ⟨h1 x hx, h2 x hx⟩
    have so := ((so0.same F39).but (fun a (z : NewAt H0 a) => pne0 z.1) (F39 _ _ hpe) s4)
    have gd : ∀ v, atI xs39 j = some v → ∃ d, ShO (NewAt H0) H4 v d ∧ Fit 1400 8 d := by
      intro v hv
      rw [hxs] at hv
      have : j = 0 ∨ j = 1 ∨ j = 2 ∨ j = 3 ∨ j = 4 ∨ j = 5 ∨ j = 6 ∨ j = 7 ∨ j = 8 ∨ j = 9 ∨ j = 10 ∨ j = 11 ∨ j = 12 ∨ j = 13 ∨ j = 14 ∨ j = 15 ∨ j = 16 ∨ j = 17 ∨ j = 18 ∨ j = 19 ∨ j = 20 ∨ j = 21 ∨ j = 22 ∨ j = 23 ∨ j = 24 ∨ j = 25 ∨ j = 26 := by omega
      rcases this with rfl | rfl | rfl | rfl | rfl | rfl | rfl | rfl | rfl | rfl | rfl | rfl | rfl | rfl | rfl | rfl | rfl | rfl | rfl | rfl | rfl | rfl | rfl | rfl | rfl | rfl | rfl <;> cases hv
      · exact ⟨_, .non, Fit.mono (fit_non.mono (Nat.le_refl _) (Nat.zero_le 8)) (by decide) (by decide)⟩
      · exact ⟨_, (.int 0), Fit.mono ((fit_int (by decide)).mono (Nat.le_refl _) (Nat.zero_le 8)) (by decide) (by decide)⟩
      · exact ⟨_, (.str _), Fit.mono ((lit "next" (by simp)).fit.mono (Nat.le_refl _) (Nat.zero_le 8)) (by decide) (by decide)⟩
      · exact ⟨_, (.str _), Fit.mono ((lit "say" (by simp)).fit.mono (Nat.le_refl _) (Nat.zero_le 8)) (by decide) (by decide)⟩
      · exact ⟨_, (.tup E1 .nil), Fit.mono (Fit.tup (m := 7) fitAll_nil) (by decide) (by decide)⟩
      · exact ⟨_, (.lst E2 o2 .nil), Fit.mono (Fit.lst (m := 7) fitAll_nil) (by decide) (by decide)⟩
      · exact ⟨_, (.dict (ks := []) (vs := []) E3 .nil .nil), Fit.mono (Fit.dict (m := 7) fitKv_nil) (by decide) (by decide)⟩
      · exact ⟨_, (.tup E4 (.cons (.str _) (.cons (.str _) .nil))), Fit.mono (Fit.tup (m := 7) (FitAll.cons ((lit "next" (by simp)).fit.mono (Nat.le_refl _) (Nat.zero_le 7)) (FitAll.cons ((lit "a" (by simp)).fit.mono (Nat.le_refl _) (Nat.zero_le 7)) fitAll_nil))) (by decide) (by decide)⟩
      · exact ⟨_, (.lst E5 o5 (.cons (.str _) .nil)), Fit.mono (Fit.lst (m := 7) (FitAll.cons ((lit "next" (by simp)).fit.mono (Nat.le_refl _) (Nat.zero_le 7)) fitAll_nil)) (by decide) (by decide)⟩
      · exact ⟨_, (.tup E6 (.cons (.str _) .nil)), Fit.mono (Fit.tup (m := 7) (FitAll.cons ((lit "say" (by simp)).fit.mono (Nat.le_refl _) (Nat.zero_le 7)) fitAll_nil)) (by decide) (by decide)⟩
      · exact ⟨_, (.tup E7 (.cons (.str _) (.cons so .nil))), Fit.mono (Fit.tup (m := 7) (FitAll.cons ((lit "say" (by simp)).fit.mono (Nat.le_refl _) (Nat.zero_le 7)) (FitAll.cons (fo.mono (Nat.le_refl _) (by decide : 5 ≤ 7)) fitAll_nil))) (by decide) (by decide)⟩
      · exact ⟨_, (.tup E8 (.cons (.str _) (.cons (.str _) .nil))), Fit.mono (Fit.tup (m := 7) (FitAll.cons ((lit "Say" (by simp)).fit.mono (Nat.le_refl _) (Nat.zero_le 7)) (FitAll.cons ((lit "a" (by simp)).fit.mono (Nat.le_refl _) (Nat.zero_le 7)) fitAll_nil))) (by decide) (by decide)⟩
      · exact ⟨_, (.tup E10 (.cons (.str _) (.cons (.str _) (.cons (.str _) .nil)))), Fit.mono (Fit.tup (m := 7) (FitAll.cons ((lit "say" (by simp)).fit.mono (Nat.le_refl _) (Nat.zero_le 7)) (FitAll.cons ((lit "a" (by simp)).fit.mono (Nat.le_refl _) (Nat.zero_le 7)) (FitAll.cons ((lit "b" (by simp)).fit.mono (Nat.le_refl _) (Nat.zero_le 7)) fitAll_nil)))) (by decide) (by decide)⟩
      · exact ⟨_, (.tup E11 (.cons (.str _) (.cons (.str _) .nil))), Fit.mono (Fit.tup (m := 7) (FitAll.cons ((lit "call" (by simp)).fit.mono (Nat.le_refl _) (Nat.zero_le 7)) (FitAll.cons ((lit "f" (by simp)).fit.mono (Nat.le_refl _) (Nat.zero_le 7)) fitAll_nil))) (by decide) (by decide)⟩
      · exact ⟨_, (.tup E13 (.cons (.str _) (.cons (.str _) (.cons (.tup E12 .nil) .nil)))), Fit.mono (Fit.tup (m := 7) (FitAll.cons ((lit "call" (by simp)).fit.mono (Nat.le_refl _) (Nat.zero_le 7)) (FitAll.cons ((lit "f" (by simp)).fit.mono (Nat.le_refl _) (Nat.zero_le 7)) (FitAll.cons (Fit.tup (m := 6) fitAll_nil) fitAll_nil)))) (by decide) (by decide)⟩
      · exact ⟨_, (.tup E15 (.cons (.str _) (.cons (.str _) (.cons (.lst E14 o14 (.cons (.int 0) .nil)) .nil)))), Fit.mono (Fit.tup (m := 7) (FitAll.cons ((lit "call" (by simp)).fit.mono (Nat.le_refl _) (Nat.zero_le 7)) (FitAll.cons ((lit "f" (by simp)).fit.mono (Nat.le_refl _) (Nat.zero_le 7)) (FitAll.cons (Fit.lst (m := 6) (FitAll.cons ((fit_int (by decide)).mono (Nat.le_refl _) (Nat.zero_le 6)) fitAll_nil)) fitAll_nil)))) (by decide) (by decide)⟩
      · exact ⟨_, (.tup E17 (.cons (.str _) (.cons so (.cons (.tup E16 (.cons (.int 0) .nil)) .nil)))), Fit.mono (Fit.tup (m := 7) (FitAll.cons ((lit "call" (by simp)).fit.mono (Nat.le_refl _) (Nat.zero_le 7)) (FitAll.cons (fo.mono (Nat.le_refl _) (by decide : 5 ≤ 7)) (FitAll.cons (Fit.tup (m := 6) (FitAll.cons ((fit_int (by decide)).mono (Nat.le_refl _) (Nat.zero_le 6)) fitAll_nil)) fitAll_nil)))) (by decide) (by decide)⟩
      · exact ⟨_, (.tup E21 (.cons (.str _) (.cons (.str _) (.cons (.tup E20 (.cons so .nil)) .nil)))), Fit.mono (Fit.tup (m := 7) (FitAll.cons ((lit "call" (by simp)).fit.mono (Nat.le_refl _) (Nat.zero_le 7)) (FitAll.cons ((lit "f" (by simp)).fit.mono (Nat.le_refl _) (Nat.zero_le 7)) (FitAll.cons (Fit.tup (m := 6) (FitAll.cons (fo.mono (Nat.le_refl _) (by decide : 5 ≤ 6)) fitAll_nil)) fitAll_nil)))) (by decide) (by decide)⟩
      · exact ⟨_, (.tup E23 (.cons (.str _) (.cons (.str _) (.cons (.tup E22 (.cons (.str _) (.cons so .nil))) .nil)))), Fit.mono (Fit.tup (m := 7) (FitAll.cons ((lit "call" (by simp)).fit.mono (Nat.le_refl _) (Nat.zero_le 7)) (FitAll.cons ((lit "f" (by simp)).fit.mono (Nat.le_refl _) (Nat.zero_le 7)) (FitAll.cons (Fit.tup (m := 6) (FitAll.cons ((lit "a" (by simp)).fit.mono (Nat.le_refl _) (Nat.zero_le 6)) (FitAll.cons (fo.mono (Nat.le_refl _) (by decide : 5 ≤ 6)) fitAll_nil))) fitAll_nil)))) (by decide) (by decide)⟩
      · exact ⟨_, (.tup E25 (.cons (.str _) (.cons (.str _) (.cons (.tup E24 (.cons (.int 0) (.cons (.str _) (.cons (.int 0) (.cons (.str _) .nil))))) .nil)))), Fit.mono (Fit.tup (m := 7) (FitAll.cons ((lit "call" (by simp)).fit.mono (Nat.le_refl _) (Nat.zero_le 7)) (FitAll.cons ((lit "f" (by simp)).fit.mono (Nat.le_refl _) (Nat.zero_le 7)) (FitAll.cons (Fit.tup (m := 6) (FitAll.cons ((fit_int (by decide)).mono (Nat.le_refl _) (Nat.zero_le 6)) (FitAll.cons ((lit "a" (by simp)).fit.mono (Nat.le_refl _) (Nat.zero_le 6)) (FitAll.cons ((fit_int (by decide)).mono (Nat.le_refl _) (Nat.zero_le 6)) (FitAll.cons ((lit "a" (by simp)).fit.mono (Nat.le_refl _) (Nat.zero_le 6)) fitAll_nil))))) fitAll_nil)))) (by decide) (by decide)⟩
      · exact ⟨_, (.tup E26 (.cons (.str _) (.cons (.str _) .nil))), Fit.mono (Fit.tup (m := 7) (FitAll.cons ((lit "a" (by simp)).fit.mono (Nat.le_refl _) (Nat.zero_le 7)) (FitAll.cons ((lit "a" (by simp)).fit.mono (Nat.le_refl _) (Nat.zero_le 7)) fitAll_nil))) (by decide) (by decide)⟩
      · exact ⟨_, (.tup E31 (.cons (.str _) (.cons (.str _) (.cons (.tup E29 (.cons (.int 0) .nil)) (.cons (.tup E30 .nil) .nil))))), Fit.mono (Fit.tup (m := 7) (FitAll.cons ((lit "call" (by simp)).fit.mono (Nat.le_refl _) (Nat.zero_le 7)) (FitAll.cons ((lit "f" (by simp)).fit.mono (Nat.le_refl _) (Nat.zero_le 7)) (FitAll.cons (Fit.tup (m := 6) (FitAll.cons ((fit_int (by decide)).mono (Nat.le_refl _) (Nat.zero_le 6)) fitAll_nil)) (FitAll.cons (Fit.tup (m := 6) fitAll_nil) fitAll_nil))))) (by decide) (by decide)⟩
      · exact ⟨_, (.tup E32 (.cons (.str _) (.cons (.str _) (.cons so .nil)))), Fit.mono (Fit.tup (m := 7) (FitAll.cons ((lit "call" (by simp)).fit.mono (Nat.le_refl _) (Nat.zero_le 7)) (FitAll.cons ((lit "f" (by simp)).fit.mono (Nat.le_refl _) (Nat.zero_le 7)) (FitAll.cons (fo.mono (Nat.le_refl _) (by decide : 5 ≤ 7)) fitAll_nil)))) (by decide) (by decide)⟩
      · exact ⟨_, (.tup E33 (.cons so (.cons (.str _) .nil))), Fit.mono (Fit.tup (m := 7) (FitAll.cons (fo.mono (Nat.le_refl _) (by decide : 5 ≤ 7)) (FitAll.cons ((lit "a" (by simp)).fit.mono (Nat.le_refl _) (Nat.zero_le 7)) fitAll_nil))) (by decide) (by decide)⟩
      · exact ⟨_, (.tup E35 (.cons (.str _) (.cons (.tup E34 .nil) .nil))), Fit.mono (Fit.tup (m := 7) (FitAll.cons ((lit "next" (by simp)).fit.mono (Nat.le_refl _) (Nat.zero_le 7)) (FitAll.cons (Fit.tup (m := 6) fitAll_nil) fitAll_nil))) (by decide) (by decide)⟩
      · exact ⟨_, (.tup E36 (.cons (.str _) .nil)), Fit.mono (Fit.tup (m := 7) (FitAll.cons ((lit "Next" (by simp)).fit.mono (Nat.le_refl _) (Nat.zero_le 7)) fitAll_nil)) (by decide) (by decide)⟩
      · exact ⟨_, (.tup E37 (.cons (.str _) .nil)), Fit.mono (Fit.tup (m := 7) (FitAll.cons ((lit "call" (by simp)).fit.mono (Nat.le_refl _) (Nat.zero_le 7)) fitAll_nil)) (by decide) (by decide)⟩
    obtain ⟨v, hv, _⟩ := atI_some (L := xs39) j1 (by omega)
    obtain ⟨d, hd, hf⟩ := gd v hv
    exact ⟨c39, _, j, v, rfl, rfl, .inl (.inl E39), hv, fin _ _ d hp4 (b0.trans bt) hd hf⟩
end
end Lw
namespace Lw
open PySem PySem.Spec PyProof.Rows L2 Kv
theorem scStep : FnScope ["_law_pot_here", "_law_amount", "_law_way", "_law_arguments", "_law_turn"] ["_law_pot_here", "_law_amount"] (defScope sStep) :=
  ⟨rfl, rfl, rfl, by decide +kernel, rfl, by decide +kernel, by decide +kernel⟩
def ArgOk (n : Int) : V → Prop
  | .int i => 0 ≤ i ∧ i < n
  | .str x => nameV (.str x) = true
  | _ => False
def vD : V → PyData
  | .int i => .int i
  | .str x => .str x
  | _ => .none
/-- a drawn step -/
inductive StepAt (n : Int) (H : Hp) : V → PyData → Prop
  | nx {t : Addr} : H t = some (.tup [.str "next"]) → StepAt n H (.ref t) (.tuple [.str "next"])
  | say {t : Addr} {x : Str} : H t = some (.tup [.str "say", .str x]) → nameV (.str x) = true → StepAt n H (.ref t) (.tuple [.str "say", .str x])
  | call {t a : Addr} {x : Str} {vs : List V} : H t = some (.tup [.str "call", .str x, .ref a]) → nameV (.str x) = true → H a = some (.tup vs) →
      (∀ v ∈ vs, ArgOk n v) → 1 ≤ vs.length → vs.length ≤ 3 → StepAt n H (.ref t) (.tuple [.str "call", .str x, .tuple (vs.map vD)])
theorem StepAt.same {n : Int} {H H' : Hp} {v : V} {d : PyData} (h : StepAt n H v d) (s : Same H H') : StepAt n H' v d := by
  cases h with
  | nx e => exact .nx (s _ _ e)
  | say e h => exact .say (s _ _ e) h
  | call e h e2 h2 l1 l2 => exact .call (s _ _ e) h (s _ _ e2) h2 l1 l2
theorem StepAt.but {n : Int} {p : Addr} {H H' : Hp} {v : V} {d : PyData} (h : StepAt n H v d) (hp : PotAt H p) (b : But p H H') : StepAt n H' v d := by
  obtain ⟨_, _, ep, _⟩ := hp
  have ne : ∀ {a : Addr} {xs : List V}, H a = some (.tup xs) → H' a = some (.tup xs) := fun e => b _ _ (ne_of e ep (by intro z; cases z)) e
  cases h with
  | nx e => exact .nx (ne e)
  | say e h => exact .say (ne e) h
  | call e h e2 h2 l1 l2 => exact .call (ne e) h (ne e2) h2 l1 l2
/-- another list is written -/
theorem StepAt.lst {n : Int} {l : Addr} {xs ys : List V} {H : Hp} {v : V} {d : PyData} (h : StepAt n H v d) (hl : H l = some (.lst xs)) : StepAt n (upd H l (.lst ys)) v d := by
  have ne : ∀ {a : Addr} {zs : List V}, H a = some (.tup zs) → upd H l (.lst ys) a = some (.tup zs) := fun e => by
    rw [upd_ne (ne_of e hl (by intro z; cases z))]
    exact e
  cases h with
  | nx e => exact .nx (ne e)
  | say e h => exact .say (ne e) h
  | call e h e2 h2 l1 l2 => exact .call (ne e) h (ne e2) h2 l1 l2
theorem sho_args {n : Int} {ok : Addr → Prop} {H : Hp} : ∀ {vs : List V}, (∀ v ∈ vs, ArgOk n v) → ShOs ok H vs (vs.map vD)
  | [], _ => .nil
  | v :: vs, h => by
    refine .cons ?_ (sho_args fun z hz => h z (List.mem_cons_of_mem _ hz))
    have := h v (List.mem_cons_self ..)
    cases v with
    | int i => exact .int i
    | str x => exact .str x
    | _ => exact this.elim
theorem all_args {n : Int} : ∀ {vs : List V}, (∀ v ∈ vs, ArgOk n v) → (vs.map vD).all (argD n) = true
  | [], _ => rfl
  | v :: vs, h => by
    rw [List.map_cons, List.all_cons, all_args fun z hz => h z (List.mem_cons_of_mem _ hz), Bool.and_true]
    have := h v (List.mem_cons_self ..)
    cases v with
    | int i =>
      show (decide (0 ≤ i) && decide (i < n)) = true
      rw [decide_eq_true this.1, decide_eq_true this.2]
      rfl
    | str x => exact this
    | _ => exact this.elim
theorem fit_args {n : Int} (hn : n ≤ 3) : ∀ {vs : List V}, (∀ v ∈ vs, ArgOk n v) → FitAll (201 * vs.length) 3 (vs.map vD)
  | [], _ => fitAll_nil
  | v :: vs, h => by
    have ih := fit_args hn (vs := vs) fun z hz => h z (List.mem_cons_of_mem _ hz)
    have := h v (List.mem_cons_self ..)
    have f : Fit 200 3 (vD v) := by
      cases v with
      | int i =>
        refine (fit_int ?_).mono (Nat.le_refl _) (Nat.zero_le _)
        have z : i.natAbs ≤ 3 := by
          have z1 := this.1
          have z2 := this.2
          omega
        exact Nat.le_trans z (by decide)
      | str x => exact (name_sm this).fit.mono (by decide) (Nat.zero_le _)
      | _ => exact this.elim
    exact (FitAll.cons f ih).mono (by simp only [List.length_cons]; omega) (Nat.le_refl _)
theorem StepAt.sho {n : Int} {ok : Addr → Prop} {H : Hp} {v : V} {d : PyData} (h : StepAt n H v d) : ShO ok H v d := by
  cases h with
  | nx e => exact .tup e (.cons (.str _) .nil)
  | say e h => exact .tup e (.cons (.str _) (.cons (.str _) .nil))
  | call e h e2 h2 l1 l2 => exact .tup e (.cons (.str _) (.cons (.str _) (.cons (.tup e2 (sho_args h2)) .nil)))
theorem lit_sm {x : Str} (h : x ∈ (["next", "say", "call"] : List Str)) : Sm 10 x := by
  have h1 : ∀ y ∈ (["next", "say", "call"] : List Str), y.length ≤ 10 := by decide +kernel
  have h2 : ∀ y ∈ (["next", "say", "call"] : List Str), ∀ c ∈ y.cps.toList, c < 128 := by decide +kernel
  exact ⟨h1 x h, h2 x h⟩
theorem StepAt.fit {n : Int} {H : Hp} {v : V} {d : PyData} (h : StepAt n H v d) (hn : n ≤ 3) : Fit 700 5 d := by
  have lt : ∀ {x : Str}, x ∈ (["next", "say", "call"] : List Str) → Fit 10 4 (.str x) := fun z => (lit_sm z).fit.mono (Nat.le_refl _) (Nat.zero_le _)
  cases h with
  | nx e => exact (Fit.tup (FitAll.cons (lt (by simp)) fitAll_nil)).mono (by decide) (by decide)
  | say e h => exact (Fit.tup (FitAll.cons (lt (by simp)) (FitAll.cons ((name_sm h).fit.mono (Nat.le_refl _) (Nat.zero_le _)) fitAll_nil))).mono (by decide) (by decide)
  | call e h e2 h2 l1 l2 =>
    exact (Fit.tup (FitAll.cons (lt (by simp)) (FitAll.cons ((name_sm h).fit.mono (Nat.le_refl _) (Nat.zero_le _)) (FitAll.cons (Fit.tup (fit_args hn h2)) fitAll_nil)))).mono (by omega) (by decide)
theorem StepAt.ok {n : Int} {H : Hp} {v : V} {d : PyData} (h : StepAt n H v d) : stepD n d = true := by
  cases h with
  | nx e =>
    show stepL n [.str "next"] = true
    rw [step_next]
    rfl
  | say e h =>
    show stepL n [.str "say", .str _] = true
    rw [step_say]
    exact h
  | call e h e2 h2 l1 l2 =>
    show stepL n [.str "call", .str _, .tuple _] = true
    rw [step_call]
    show (wordD (.str _) && argsD n (.tuple _)) = true
    rw [show wordD (.str _) = true from h, Bool.true_and]
    show ((decide (1 ≤ _) && decide (_ ≤ 3)) && _) = true
    rw [List.length_map, decide_eq_true l1, decide_eq_true l2, all_args h2]
    rfl
theorem dp_args {n : Int} {K : PySem.W.Frag} {H : Hp} : ∀ {vs : List V}, (∀ v ∈ vs, ArgOk n v) → DpAll K H vs (vs.map vD)
  | [], _ => .nil
  | v :: vs, h => by
    refine .cons ?_ (dp_args fun z hz => h z (List.mem_cons_of_mem _ hz))
    have := h v (List.mem_cons_self ..)
    cases v with
    | int i => exact .int i
    | str x => exact .str x
    | _ => exact this.elim
theorem StepAt.dp {n : Int} {K : PySem.W.Frag} {H : Hp} {v : V} {d : PyData} (h : StepAt n H v d) : Dp K H v d := by
  cases h with
  | nx e => exact .tup (.inl (.inl e)) (.cons (.str _) .nil)
  | say e h => exact .tup (.inl (.inl e)) (.cons (.str _) (.cons (.str _) .nil))
  | call e h e2 h2 l1 l2 => exact .tup (.inl (.inl e)) (.cons (.str _) (.cons (.str _) (.cons (.tup (.inl (.inl e2)) (dp_args h2)) .nil)))
theorem sm_strOk {n : Nat} {x : Str} (h : Sm n x) : PyData.strOk x = true := by
  unfold PyData.strOk
  rw [Array.all_eq_true']
  intro c hc
  exact decide_eq_true (Nat.lt_trans (h.2 c (Array.mem_toList_iff.mpr hc)) (by decide))
theorem lay_args {n : Int} : ∀ {vs : List V}, (∀ v ∈ vs, ArgOk n v) → PyData.canLayAll0 (vs.map vD) = true ∧ PyData.depthAll (vs.map vD) = 0
  | [], _ => ⟨rfl, rfl⟩
  | v :: vs, h => by
    obtain ⟨i1, i2⟩ := lay_args (vs := vs) fun z hz => h z (List.mem_cons_of_mem _ hz)
    have := h v (List.mem_cons_self ..)
    have e : (vD v).canLay0 = true ∧ (vD v).depth = 0 := by
      cases v with
      | int i => exact ⟨by simp [vD, PyData.canLay0], by simp [vD, PyData.depth]⟩
      | str x =>
        have sm := name_sm this
        refine ⟨?_, by simp [vD, PyData.depth]⟩
        show PyData.canLay0 (.str x) = true
        simp only [PyData.canLay0]
        exact sm_strOk sm
      | _ => exact this.elim
    refine ⟨?_, ?_⟩
    · rw [List.map_cons, PyData.canLayAll0, e.1, i1]
      rfl
    · rw [List.map_cons, PyData.depthAll, e.2, i2]
      rfl
theorem StepAt.lay {n : Int} {H : Hp} {v : V} {d : PyData} (h : StepAt n H v d) : d.canLay0 = true := by
  have lt : ∀ {x : Str}, x ∈ (["next", "say", "call"] : List Str) → PyData.strOk x = true := fun z => sm_strOk (lit_sm z)
  cases h with
  | nx e =>
    simp only [PyData.canLay0, PyData.canLayAll0, Bool.and_true]
    exact lt (by simp)
  | say e h =>
    simp only [PyData.canLay0, PyData.canLayAll0, Bool.and_true, Bool.and_eq_true]
    exact ⟨lt (by simp), sm_strOk (name_sm h)⟩
  | call e h e2 h2 l1 l2 =>
    simp only [PyData.canLay0, PyData.canLayAll0, Bool.and_true, Bool.and_eq_true]
    exact ⟨lt (by simp), sm_strOk (name_sm h), (lay_args h2).1⟩
theorem eqv_longer {a b c : PyData} {r : List PyData} : PyData.eqv (.tuple (a :: b :: r)) (.tuple [c]) = false := by
  simp [PyData.eqv, PyData.eqvAll]
theorem next_longer {a b : PyData} {r : List PyData} : nextD (.tuple (a :: b :: r)) = false := by
  simp [nextD, tupEq]
theorem StepAt.eqNext {n : Int} {H : Hp} {v : V} {d : PyData} (h : StepAt n H v d) : PyData.eqv d (.tuple [.str "next"]) = nextD d := by
  cases h with
  | nx e => decide +kernel
  | say e h => rw [eqv_longer, next_longer]
  | call e h e2 h2 l1 l2 => rw [eqv_longer, next_longer]
/-- a list of drawn steps -/
inductive Steps (n : Int) (H : Hp) : List V → List PyData → Prop
  | nil : Steps n H [] []
  | cons {v : V} {d : PyData} {vs : List V} {ds : List PyData} : StepAt n H v d → Steps n H vs ds → Steps n H (v :: vs) (d :: ds)
theorem Steps.map {n : Int} {H H' : Hp} (f : ∀ {v : V} {d : PyData}, StepAt n H v d → StepAt n H' v d) : ∀ {vs : List V} {ds : List PyData}, Steps n H vs ds → Steps n H' vs ds
  | _, _, .nil => .nil
  | _, _, .cons a b => .cons (f a) (Steps.map f b)
theorem Steps.length {n : Int} {H : Hp} : ∀ {vs : List V} {ds : List PyData}, Steps n H vs ds → vs.length = ds.length
  | _, _, .nil => rfl
  | _, _, .cons _ b => by rw [List.length_cons, List.length_cons, b.length]
theorem Steps.snoc {n : Int} {H : Hp} : ∀ {vs : List V} {ds : List PyData} {v : V} {d : PyData}, Steps n H vs ds → StepAt n H v d → Steps n H (vs ++ [v]) (ds ++ [d])
  | _, _, _, _, .nil, h => .cons h .nil
  | _, _, _, _, .cons a b, h => .cons a (Steps.snoc b h)
theorem Steps.get {n : Int} {H : Hp} : ∀ {vs : List V} {ds : List PyData} {i : Nat} {v : V}, Steps n H vs ds → vs[i]? = some v → ∃ d, ds[i]? = some d ∧ StepAt n H v d
  | _, _, _, _, .nil, e => by simp at e
  | _, _, 0, _, .cons a _, e => by
    simp at e
    subst e
    exact ⟨_, rfl, a⟩
  | _, _, i + 1, v, .cons _ b, e => by
    obtain ⟨d, h1, h2⟩ := Steps.get (i := i) (v := v) b (by simpa using e)
    exact ⟨d, by simpa using h1, h2⟩
theorem Steps.take {n : Int} {H : Hp} : ∀ {vs : List V} {ds : List PyData} (i : Nat), Steps n H vs ds → Steps n H (vs.take i) (ds.take i)
  | _, _, 0, _ => by
    rw [List.take_zero, List.take_zero]
    exact .nil
  | _, _, i + 1, .nil => by
    rw [List.take_nil, List.take_nil]
    exact .nil
  | _, _, i + 1, .cons a b => by
    rw [List.take_succ_cons, List.take_succ_cons]
    exact .cons a (Steps.take i b)
theorem Steps.shos {n : Int} {ok : Addr → Prop} {H : Hp} : ∀ {vs : List V} {ds : List PyData}, Steps n H vs ds → ShOs ok H vs ds
  | _, _, .nil => .nil
  | _, _, .cons a b => .cons a.sho b.shos
theorem Steps.dps {n : Int} {K : PySem.W.Frag} {H : Hp} : ∀ {vs : List V} {ds : List PyData}, Steps n H vs ds → DpAll K H vs ds
  | _, _, .nil => .nil
  | _, _, .cons a b => .cons a.dp b.dps
theorem Steps.oks {n : Int} {H : Hp} : ∀ {vs : List V} {ds : List PyData}, Steps n H vs ds → ds.all (stepD n) = true
  | _, _, .nil => rfl
  | _, _, .cons a b => by rw [List.all_cons, a.ok, b.oks]; rfl
theorem Steps.fits {n : Int} {H : Hp} (hn : n ≤ 3) : ∀ {vs : List V} {ds : List PyData}, Steps n H vs ds → FitAll (701 * ds.length) 5 ds
  | _, _, .nil => fitAll_nil
  | _, _, .cons a b => (FitAll.cons (a.fit hn) (b.fits hn)).mono (by simp only [List.length_cons]; omega) (Nat.le_refl _)
theorem Steps.lays {n : Int} {H : Hp} : ∀ {vs : List V} {ds : List PyData}, Steps n H vs ds → PyData.canLayAll0 ds = true
  | _, _, .nil => by simp [PyData.canLayAll0]
  | _, _, .cons a b => by rw [PyData.canLayAll0, a.lay, b.lays]; rfl
theorem Steps.shaped {n : Int} {H : Hp} (hn : n ≤ 3) {vs : List V} {ds : List PyData} (h : Steps n H vs ds) : SeqAt.shaped (.list ds) = true := by
  unfold SeqAt.shaped
  have f := (Fit.lst (h.fits hn)).2.2.2
  rw [Bool.and_eq_true]
  refine ⟨?_, decide_eq_true (by omega)⟩
  simp only [PyData.canLay0]
  exact h.lays
theorem StepAt.shaped {n : Int} {H : Hp} (hn : n ≤ 3) {v : V} {d : PyData} (h : StepAt n H v d) : SeqAt.shaped d = true := by
  unfold SeqAt.shaped
  have f := (h.fit hn).2.2.2
  rw [Bool.and_eq_true]
  exact ⟨h.lay, decide_eq_true (by omega)⟩
theorem Steps.anyNext {n : Int} {H : Hp} : ∀ {vs : List V} {ds : List PyData}, Steps n H vs ds → (ds.any fun z => PyData.eqv z (.tuple [.str "next"])) = ds.any nextD
  | _, _, .nil => rfl
  | _, _, .cons a b => by rw [List.any_cons, List.any_cons, a.eqNext, b.anyNext]
section
variable {P : Program} {w : World} {K : PySem.W.Frag} {mg : Str → Option Value} {base : Heap}
def spStep : Sp := fun vs H Q _ => ∃ (p : Addr) (n : Int), vs = [.ref p, .int n] ∧ PotAt H p ∧ 1 ≤ n ∧ n ≤ 3 ∧
  ∀ H' v d, PotAt H' p → But p H H' → StepAt n H' v d → Q v H'
theorem ok_step {f fD fN : Addr} {fd fdD fdN : FuncData} {k : Nat} (F : Fun K "_law_step" "_law_step" sStep f fd)
    (FD : Fun K "_law_draw" "_law_draw" sDraw fD fdD) (bD : Binds K fdD ["_law_pot_here", "_law_many"] []) (gD : mg "_law_draw" = some (.ref fD))
    (FN : Fun K "_law_name" "_law_name" sName fN fdN) (bN : Binds K fdN ["_law_pot_here"] []) (gN : mg "_law_name" = some (.ref fN))
    (GD : FnOk P w K mg base CX0 (k + 1) fD fdD ["_law_pot_here", "_law_many"] spDraw) (GN : FnOk P w K mg base CX0 (k + 2) fN fdN ["_law_pot_here"] spNm)
    (mr : mg "range" = none) (mT : mg "tuple" = none) :
    FnOk P w K mg base CX0 (k + 3) f fd ["_law_pot_here", "_law_amount"] spStep := by
  refine F.ok scStep (fun vs H Q E h => ?_) (fun cdv A outer s H vs Q E hr h => ?_)
  · obtain ⟨p, n, rfl, _⟩ := h
    rfl
  · obtain ⟨p, n, rfl, hp, hn1, hn2, fin⟩ := h
    have hrD := hr.mono (by omega : k + 1 ≤ k + 2)
    refine ⟨_, pss_cons (ps_set (i := 2) scStep.nd rfl (.inl rfl) (pe_call GD hrD (by rfl) gD FD.kp bD .nil pass0 (pa_cons (pv 0) (pa_cons pe_int pa_nil))))
      (pss_cons (ps_if (pt_cmpR op_eq (pv 2) pe_int (nomark _)) (pss_one (ps_ret (pe_tup (pa_cons pe_str pa_nil)))) pss_nil)
      (pss_cons (ps_if (pt_cmpR op_eq (pv 2) pe_int (nomark _)) (pss_one (ps_ret (pe_tup (pa_cons pe_str (pa_cons (pe_call GN hr (by rfl) gN FN.kp bN .nil pass0 (pa_cons (pv 0) pa_nil)) pa_nil))))) pss_nil)
      (pss_cons (ps_set (i := 3) scStep.nd rfl (.inl rfl) (pe_lst pa_nil))
      (pss_cons (ps_for PassesOwn.never rfl (pi_range1 rfl mr (pa_cons (pe_op op_add pe_int (pe_call GD hrD (by rfl) gD FD.kp bD .nil pass0 (pa_cons (pv 0) (pa_cons pe_int pa_nil)))) pa_nil)) (pg_name (i := 4) scStep.nd rfl (.inl rfl))
        (pss_one (ps_expr (pe_bm PySem.F.plainAttrs_list PySem.F.slot_list_append PySem.F.type_list_append mt_append (pv 3) (pa_cons
          (pe_ifExp (pt_cmpR op_eq (pe_call GD hrD (by rfl) gD FD.kp bD .nil pass0 (pa_cons (pv 0) (pa_cons pe_int pa_nil))) pe_int (nomark _))
            (pe_call GN hr (by rfl) gN FN.kp bN .nil pass0 (pa_cons (pv 0) pa_nil))
            (pe_call GD hrD (by rfl) gD FD.kp bD .nil pass0 (pa_cons (pv 0) (pa_cons (pv 1) pa_nil)))) pa_nil)))))
      (pss_one (ps_ret (pe_tup (pa_cons pe_str (pa_cons (pe_call GN hr (by rfl) gN FN.kp bN .nil pass0 (pa_cons (pv 0) pa_nil))
        (pa_cons (pe_callTy call_tuple_of (by rfl) mT (by decide +kernel) (pa_cons (pv 3) pa_nil)) pa_nil)))))))))), ?_⟩
    refine ⟨.ref p, rfl, p, 4, rfl, hp, by decide, by decide, fun H1 w0 w1 w2 hp1 b1 => ?_⟩
    refine ⟨.int w0, rfl, rfl, _, rfl, ite2 (fun e => ?_) (fun e => ?_)⟩
    · refine ⟨(by decide : 1 ≤ sizeLine), fun t nt => ?_⟩
      exact fin _ _ _ (hp1.same (same_new nt)) (b1.new nt) (.nx upd_same)
    · refine ⟨.int w0, rfl, rfl, _, rfl, ite2 (fun e => ?_) (fun e => ?_)⟩
      · refine ⟨.ref p, rfl, p, rfl, hp1, fun H2 x hp2 b2 hx => ?_⟩
        refine ⟨(by decide : 2 ≤ sizeLine), fun t nt => ?_⟩
        exact fin _ _ _ (hp2.same (same_new nt)) ((b1.trans b2).new nt) (.say upd_same hx)
      · refine ⟨(by decide : 0 ≤ sizeLine), fun l nl => ?_⟩
        have nlp : l ≠ p := by
          intro z
          obtain ⟨_, _, e3, _⟩ := hp1
          rw [z, e3] at nl
          cases nl
        refine ⟨.ref p, rfl, p, 3, rfl, hp1.same (same_new nl), by decide, by decide, fun H2 m0 m1 m2 hp2 b2 => ?_⟩
        have l2 := b2 _ _ nlp upd_same
        have b02 : But p H H2 := (b1.new nl).trans b2
        refine ⟨_, _, rfl, rfl, 1 + m0, rfl, by omega, by omega, ?_⟩
        refine for_range (lo := 0) (n := (1 + m0).toNat) (fun i σ H3 => ∃ (y : Option V) (us : List V), σ = [some (.ref p), some (.int n), some (.int w0), some (.ref l), y] ∧ H3 l = some (.lst us) ∧ us.length = i ∧ (∀ v ∈ us, ArgOk n v) ∧ PotAt H3 p ∧ But p H H3)
          ⟨none, [], rfl, l2, rfl, fun v hv => (nomatch hv), hp2, b02⟩ (fun i σ H3 hi hP => ?_) (fun σ H3 hP => ?_)
        · obtain ⟨y, us, rfl, e1, e2, e3, hp3, b3⟩ := hP
          refine ⟨.ref l, rfl, .inl ⟨rfl, _, .inl (.inl e1)⟩, .ref p, rfl, p, 2, rfl, hp3, by decide, by decide, fun H4 c0 c1 c2 hp4 b4 => ?_⟩
          have l4 := b4 _ _ nlp e1
          have fini : ∀ (H5 : Hp) (v : V), PotAt H5 p → But p H4 H5 → ArgOk n v → ∃ (l' : Addr) (us' : List V) (z : V), V.ref l = .ref l' ∧ [v] = [z] ∧ H5 l' = some (.lst us') ∧ us'.length < sizeLine ∧
              ∃ (y : Option V) (us : List V), [some (.ref p), some (.int n), some (.int w0), some (.ref l), some (.int (0 + (i : Int)))] = [some (.ref p), some (.int n), some (.int w0), some (.ref l), y] ∧ (upd H5 l' (.lst (us' ++ [z]))) l = some (.lst us) ∧ us.length = i + 1 ∧ (∀ v ∈ us, ArgOk n v) ∧ PotAt (upd H5 l' (.lst (us' ++ [z]))) p ∧ But p H (upd H5 l' (.lst (us' ++ [z]))) := by
            intro H5 v hp5 b5 hv
            have l5 := b5 _ _ nlp l4
            refine ⟨l, us, v, rfl, rfl, l5, sz1 (by omega), _, us ++ [v], rfl, upd_same, ?_, ?_, ?_, ?_⟩
            · rw [List.length_append, e2]
              rfl
            · intro z hz
              rcases List.mem_append.mp hz with q | q
              · exact e3 z q
              · rw [List.mem_singleton.mp q]
                exact hv
            · obtain ⟨r, g, e, hh⟩ := hp5
              exact ⟨r, g, by rw [upd_ne nlp.symm]; exact e, hh⟩
            · intro c o nc hc
              have nlc : c ≠ l := by
                intro z
                rw [z, but_free hp1 b1 nl] at hc
                cases hc
              rw [upd_ne nlc]
              exact b5 _ _ nc (b4 _ _ nc (b3 _ _ nc hc))
          refine ⟨rfl, _, rfl, ite2 (fun e => ?_) (fun e => ?_)⟩
          · refine ⟨.ref p, rfl, p, rfl, hp4, fun H5 x hp5 b5 hx => ?_⟩
            exact fini H5 (.str x) hp5 b5 hx
          · refine ⟨.ref p, rfl, .int n, rfl, p, n, rfl, hp4, by omega, by omega, fun H5 c0 c1 c2 hp5 b5 => ?_⟩
            exact fini H5 (.int c0) hp5 b5 ⟨c1, c2⟩
        · obtain ⟨y, us, rfl, e1, e2, e3, hp3, b3⟩ := hP
          refine ⟨.ref p, rfl, p, rfl, hp3, fun H4 x hp4 b4 hx => ?_⟩
          have l4 := b4 _ _ nlp e1
          refine ⟨.ref l, rfl, l, us, rfl, .inl ⟨.inl (.inl l4), fun a na => ?_⟩⟩
          refine ⟨(by decide : 3 ≤ sizeLine), fun t nt => ?_⟩
          have s1 := same_new (o := .tup us) na
          have s2 := same_new (o := .tup [.str "call", .str x, .ref a]) nt
          exact fin _ _ _ ((hp4.same s1).same s2) (((b3.trans b4).new na).new nt) (.call upd_same hx (s2 _ _ upd_same) e3 (by omega) (by omega))
end
end Lw
namespace Lw
open PySem PySem.Spec PyProof.Rows L2 Kv
theorem scChg : FnScope ["_law_pot_here", "_law_steps", "_law_amount", "_law_found", "_law_way", "_law_place"] ["_law_pot_here", "_law_steps", "_law_amount"] (defScope sChg) :=
  ⟨rfl, rfl, rfl, by decide +kernel, rfl, by decide +kernel, by decide +kernel⟩
theorem ifI_ne {i j : Int} {A B : Prop} (h : i ≠ j) (b : B) : if decide (V.int i = V.int j) = true then A else B := by
  rw [if_neg]
  · exact b
  · intro z
    have := of_decide_eq_true z
    injection this with this
    exact h this
theorem ifI_eq {i : Int} {A B : Prop} (a : A) : if decide (V.int i = V.int i) = true then A else B := by
  rw [if_pos (decide_eq_true rfl)]
  exact a
/-- values that can be shown, one by one -/
inductive Els (ok : Addr → Prop) (H : Hp) : List V → List PyData → Prop
  | nil : Els ok H [] []
  | cons {v : V} {d : PyData} {vs : List V} {ds : List PyData} : ShO ok H v d → Fit 1400 8 d → Els ok H vs ds → Els ok H (v :: vs) (d :: ds)
theorem Els.map {ok ok' : Addr → Prop} {H H' : Hp} (f : ∀ {v : V} {d : PyData}, ShO ok H v d → ShO ok' H' v d) : ∀ {vs : List V} {ds : List PyData}, Els ok H vs ds → Els ok' H' vs ds
  | _, _, .nil => .nil
  | _, _, .cons a b c => .cons (f a) b (Els.map f c)
theorem Els.append {ok : Addr → Prop} {H : Hp} : ∀ {vs : List V} {ds : List PyData} {us : List V} {es : List PyData}, Els ok H vs ds → Els ok H us es → Els ok H (vs ++ us) (ds ++ es)
  | _, _, _, _, .nil, h => h
  | _, _, _, _, .cons a b c, h => .cons a b (c.append h)
theorem Els.split {ok : Addr → Prop} {H : Hp} : ∀ {vs : List V} {ds : List PyData} (i : Nat), Els ok H vs ds → Els ok H (vs.take i) (ds.take i) ∧ Els ok H (vs.drop i) (ds.drop i)
  | _, _, 0, h => by
    rw [List.take_zero, List.take_zero, List.drop_zero, List.drop_zero]
    exact ⟨.nil, h⟩
  | _, _, i + 1, .nil => by
    rw [List.take_nil, List.take_nil, List.drop_nil, List.drop_nil]
    exact ⟨.nil, .nil⟩
  | _, _, i + 1, .cons a b c => by
    rw [List.take_succ_cons, List.take_succ_cons, List.drop_succ_cons, List.drop_succ_cons]
    obtain ⟨x, y⟩ := Els.split i c
    exact ⟨.cons a b x, y⟩
theorem Els.set {ok : Addr → Prop} {H : Hp} {v : V} {d : PyData} (sv : ShO ok H v d) (fv : Fit 1400 8 d) : ∀ {vs : List V} {ds : List PyData} (i : Nat), Els ok H vs ds → Els ok H (vs.set i v) (ds.set i d)
  | _, _, _, .nil => .nil
  | _, _, 0, .cons a b c => .cons sv fv c
  | _, _, i + 1, .cons a b c => .cons a b (Els.set sv fv i c)
theorem Els.get {ok : Addr → Prop} {H : Hp} : ∀ {vs : List V} {ds : List PyData} {i : Nat} {v : V}, Els ok H vs ds → vs[i]? = some v → ∃ d, ds[i]? = some d ∧ ShO ok H v d ∧ Fit 1400 8 d
  | _, _, _, _, .nil, e => by simp at e
  | _, _, 0, _, .cons a b _, e => by
    simp at e
    subst e
    exact ⟨_, rfl, a, b⟩
  | _, _, i + 1, v, .cons _ _ b, e => by
    obtain ⟨d, h1, h2⟩ := Els.get (i := i) (v := v) b (by simpa using e)
    exact ⟨d, by simpa using h1, h2⟩
theorem Els.shos {ok : Addr → Prop} {H : Hp} : ∀ {vs : List V} {ds : List PyData}, Els ok H vs ds → ShOs ok H vs ds
  | _, _, .nil => .nil
  | _, _, .cons a _ c => .cons a c.shos
theorem Els.length {ok : Addr → Prop} {H : Hp} : ∀ {vs : List V} {ds : List PyData}, Els ok H vs ds → vs.length = ds.length
  | _, _, .nil => rfl
  | _, _, .cons _ _ c => by rw [List.length_cons, List.length_cons, c.length]
theorem Els.fits {ok : Addr → Prop} {H : Hp} : ∀ {vs : List V} {ds : List PyData}, Els ok H vs ds → FitAll (1401 * ds.length) 8 ds
  | _, _, .nil => fitAll_nil
  | _, _, .cons _ b c => (FitAll.cons b c.fits).mono (by simp only [List.length_cons]; omega) (Nat.le_refl _)
theorem Steps.els {n : Int} {ok : Addr → Prop} {H : Hp} (hn : n ≤ 3) : ∀ {vs : List V} {ds : List PyData}, Steps n H vs ds → Els ok H vs ds
  | _, _, .nil => .nil
  | _, _, .cons a b => .cons a.sho ((a.fit hn).mono (by decide) (by decide)) (b.els hn)
theorem eqv_nil {ds : List PyData} : PyData.eqv (.list ds) (.list []) = decide (ds = []) := by
  cases ds with
  | nil => rfl
  | cons d r => simp [PyData.eqv, PyData.eqvAll]
theorem fit_tup4 {ds : List PyData} (h : Fit 700 5 (.tuple ds)) : FitAll 700 4 ds := by
  obtain ⟨a1, a2, a3, a4⟩ := h
  simp only [PyData.showable] at a1
  simp only [PyData.leavesShort] at a2
  simp only [PyData.weight] at a3
  simp only [PyData.depth] at a4
  exact ⟨a1, a2, by omega, by omega⟩
def rListNT (K : PySem.W.Frag) : List V → Hp → VK → Prop := fun xs H Q => ∃ p ys, xs = [.ref p] ∧ SqT K H p ys ∧
  ∀ l, H l = none → l ≠ sysModules → Q (.ref l) (upd H l (.lst ys))
theorem call_listNT {X : Cx} (low : sysModules < X.base.objs.size) : CallR X (.type "list") (rListNT X.K) := by
  intro pins s σ H xs us Q I r h
  obtain ⟨p, ys, rfl, hq, q⟩ := h
  obtain ⟨u, rfl, rx⟩ := vals1 r
  cases rx
  obtain ⟨its, rv, pl, hz⟩ := I.tuple hq
  have hlen := rv.length
  obtain ⟨o, ho, hc, n, hd⟩ := pl
  refine call_list_seq p (.inr rfl) ho hc hd ?_ (by simp only [List.size_toArray]; omega)
  intro h2 c2 kp e
  have ok : ObjOk X.prog X.w (upd H s.heap.objs.size (.lst ys)) h2 s.heap.objs.size (.lst ys) := ⟨hz, its, c2, rv, e⟩
  exact ⟨.ref s.heap.objs.size, _, I.laid (t' := s.toks) kp (Nat.le_refl _) ok, rfl, q _ (I.hok.fresh (Nat.le_refl _)) (new_low low I)⟩
/-- where the lists in a changed body lie -/
def Off (p l : Addr) : Addr → Prop := fun a => a ≠ p ∧ a ≠ l ∧ a ≠ sysModules
/-- a drawn body lies apart from the pot -/
def BodyAt (p : Addr) (H : Hp) (v : V) : Prop := ∃ d : PyData, ShO (Apart p) H v d ∧ Fit 9000 20 d
section
variable {P : Program} {w : World} {K : PySem.W.Frag} {mg : Str → Option Value} {base : Heap}
def spChg : Sp := fun vs H Q _ => ∃ (p S : Addr) (n : Int) (us : List V) (ds : List PyData), vs = [.ref p, .ref S, .int n] ∧ PotAt H p ∧ S ≠ p ∧ H S = some (.lst us) ∧ Steps n H us ds ∧ us.length ≤ 5 ∧ 1 ≤ n ∧ n ≤ 3 ∧
  ∀ H' v, PotAt H' p → But p H H' → BodyAt p H' v → Q v H'
theorem ok_chg {f fD fO : Addr} {fd fdD fdO : FuncData} {k : Nat} (F : Fun K "_law_changed" "_law_changed" sChg f fd) (low : sysModules < base.objs.size)
    (FD : Fun K "_law_draw" "_law_draw" sDraw fD fdD) (bD : Binds K fdD ["_law_pot_here", "_law_many"] []) (gD : mg "_law_draw" = some (.ref fD))
    (FO : Fun K "_law_odd_step" "_law_odd_step" sOddS fO fdO) (bO : Binds K fdO ["_law_pot_here", "_law_amount"] []) (gO : mg "_law_odd_step" = some (.ref fO))
    (GD : FnOk P w K mg base CX0 (k + 1) fD fdD ["_law_pot_here", "_law_many"] spDraw) (GO : FnOk P w K mg base CX0 (k + 3) fO fdO ["_law_pot_here", "_law_amount"] spOddS)
    (mL : mg "list" = none) (mT : mg "tuple" = none) (ml : mg "len" = none) (mn : mg "min" = none) :
    FnOk P w K mg base CX0 (k + 4) f fd ["_law_pot_here", "_law_steps", "_law_amount"] spChg := by
  refine F.ok scChg (fun vs H Q E h => ?_) (fun cdv A outer s H vs Q E hr h => ?_)
  · obtain ⟨p, S, n, us, ds, rfl, _⟩ := h
    rfl
  · obtain ⟨p, S, n, us, ds, rfl, hp, nSp, hS, hst, hlen, hn1, hn2, fin⟩ := h
    have hrD := hr.mono (by omega : k + 1 ≤ k + 3)
    refine ⟨_, pss_cons (ps_par3 (i := 3) (j := 4) (l := 5) (by rfl) scChg.nd rfl rfl rfl (by decide) (by decide) (by decide) rfl rfl rfl
        (pa_cons (pe_callTy (call_listN low) (by rfl) mL (by decide +kernel) (pa_cons (pv 1) pa_nil))
        (pa_cons (pe_call GD hrD (by rfl) gD FD.kp bD .nil pass0 (pa_cons (pv 0) (pa_cons pe_int pa_nil)))
        (pa_cons (pe_call GD hrD (by rfl) gD FD.kp bD .nil pass0 (pa_cons (pv 0) (pa_cons (pe_op op_add (pe_callB call_len_seq (by rfl) ml PySem.boot_len (pa_cons (pv 1) pa_nil)) pe_int) pa_nil))) pa_nil))) (by rfl))
      (pss_cons (ps_if (pt_cmpR op_eq (pv 4) pe_int (nomark _))
        (pss_one (ps_expr (pe_bm PySem.F.plainAttrs_list PySem.F.slot_list_insert PySem.F.type_list_insert mt_insert (pv 3) (pa_cons (pv 5) (pa_cons (pe_call GO hr (by rfl) gO FO.kp bO .nil pass0 (pa_cons (pv 0) (pa_cons (pv 2) pa_nil))) pa_nil))))) pss_nil)
      (pss_cons (ps_if (pt_cmpR op_eq (pv 4) pe_int (nomark _))
        (pss_one (ps_expr (pe_bm PySem.F.plainAttrs_list PySem.F.slot_list_insert PySem.F.type_list_insert mt_insert (pv 3) (pa_cons (pv 5) (pa_cons (pe_tup (pa_cons pe_str pa_nil)) pa_nil))))) pss_nil)
      (pss_cons (ps_if (PW.pt (pw_and (pt_cmpR op_eq (pv 4) pe_int (nomark _)) (pw_and1 (pt_cmpR (op_neD hr.units) (pv 1) (pe_lst pa_nil) (nomark _)))))
        (pss_one (ps_asg (pe_call GO hr (by rfl) gO FO.kp bO .nil pass0 (pa_cons (pv 0) (pa_cons (pv 2) pa_nil)))
          (pg_sub (pv 3) (pe_callB (call_min2 rfl) (by rfl) mn (by decide +kernel) (pa_cons (pv 5) (pa_cons (pe_op op_sub (pe_callB call_len_seq (by rfl) ml PySem.boot_len (pa_cons (pv 1) pa_nil)) pe_int) pa_nil))) set_list))) pss_nil)
      (pss_cons (ps_if (PW.pt (pw_and (pt_cmpR op_eq (pv 4) pe_int (nomark _)) (pw_and1 (pt_cmpR (op_neD hr.units) (pv 1) (pe_lst pa_nil) (nomark _)))))
        (pss_one (ps_asg (pe_callTy (call_listNT low) (by rfl) mL (by decide +kernel) (pa_cons (pe_ix ix_list (pv 3) (pe_callB (call_min2 rfl) (by rfl) mn (by decide +kernel) (pa_cons (pv 5) (pa_cons (pe_op op_sub (pe_callB call_len_seq (by rfl) ml PySem.boot_len (pa_cons (pv 1) pa_nil)) pe_int) pa_nil))) (fun _ _ => rfl)) pa_nil))
          (pg_sub (pv 3) (pe_callB (call_min2 rfl) (by rfl) mn (by decide +kernel) (pa_cons (pv 5) (pa_cons (pe_op op_sub (pe_callB call_len_seq (by rfl) ml PySem.boot_len (pa_cons (pv 1) pa_nil)) pe_int) pa_nil))) set_list))) pss_nil)
      (pss_cons (ps_if (PW.pt (pw_and (pt_cmpR op_eq (pv 4) pe_int (nomark _)) (pw_and1 (pt_cmpR (op_neD hr.units) (pv 1) (pe_lst pa_nil) (nomark _)))))
        (pss_one (ps_expr (pe_bm PySem.F.plainAttrs_list PySem.F.slot_list_insert PySem.F.type_list_insert mt_insert (pv 3) (pa_cons (pv 5) (pa_cons
          (pe_ix ix_list (pv 3) (pe_callB (call_min2 rfl) (by rfl) mn (by decide +kernel) (pa_cons (pv 5) (pa_cons (pe_op op_sub (pe_callB call_len_seq (by rfl) ml PySem.boot_len (pa_cons (pv 1) pa_nil)) pe_int) pa_nil))) (fun _ _ => rfl)) pa_nil))))) pss_nil)
      (pss_cons (ps_if (pt_cmpR op_eq (pv 4) pe_int (nomark _)) (pss_one (ps_ret (pv 3))) pss_nil)
      (pss_one (ps_ret (pe_callTy call_tuple_of (by rfl) mT (by decide +kernel) (pa_cons (pv 3) pa_nil)))))))))), ?_⟩
    refine ⟨.ref S, rfl, S, us, rfl, .inl (.inl hS), fun l nl zl => ?_⟩
    have sl := same_new (o := .lst us) nl
    have el : (upd H l (.lst us)) l = some (.lst us) := upd_same
    generalize upd H l (.lst us) = G at sl el ⊢
    have nlp : l ≠ p := by
      intro z
      obtain ⟨_, _, e3, _⟩ := hp
      rw [z, e3] at nl
      cases nl
    have nlS : l ≠ S := by
      intro z
      rw [z, hS] at nl
      cases nl
    refine ⟨.ref p, rfl, p, 7, rfl, hp.same sl, by decide, by decide, fun H1 w0 w1 w2 hp1 b1 => ?_⟩
    have S1 := b1 _ _ nSp (sl _ _ hS)
    refine ⟨.ref p, rfl, .ref S, rfl, S, us, rfl, .inl (.inl (.inl S1)), _, _, rfl, rfl, p, _, rfl, hp1, by omega, by omega, fun H2 q0 q1 q2 hp2 b2 => ?_⟩
    have S2 := b2 _ _ nSp S1
    have l2 := b2 _ _ nlp (b1 _ _ nlp el)
    have b02 : But p H H2 := ((But.of_same sl).trans b1).trans b2
    have st2 : Steps n H2 us ds := hst.map fun h => ((h.same sl).but (hp.same sl) b1).but hp1 b2
    have q3 : q0 ≤ us.length := by omega
    clear q2
    have e2 : Els (Off p l) H2 us ds := st2.els hn2
    have dl : us.length = ds.length := st2.length
    have tup_ne : ∀ {G : Hp} {xs : List V} {a : Addr} {zs : List V}, G l = some (.lst xs) → G a = some (.tup zs) → a ≠ l := fun h1 h2 => ne_of h2 h1 (by intro z; cases z)
    have eu : ∀ {G : Hp} {xs ys vs : List V} {es : List PyData}, G l = some (.lst xs) → Els (Off p l) G vs es → Els (Off p l) (upd G l (.lst ys)) vs es := by
      intro G xs ys vs es hl h
      refine h.map fun z => z.keep (fun a zs o e => ?_) (fun a zs e => ?_) (fun a zs e => ?_)
      · rw [upd_ne o.2.1]
        exact e
      · rw [upd_ne (ne_of e hl (by intro z; cases z))]
        exact e
      · rw [upd_ne (ne_of e hl (by intro z; cases z))]
        exact e
    have newOff : ∀ {G : Hp} {xs : List V} {a : Addr}, PotAt G p → G l = some (.lst xs) → NewAt G a → Off p l a := by
      intro G xs a hpG hlG z
      refine ⟨?_, ?_, z.2⟩
      · intro y
        obtain ⟨_, _, e3, _⟩ := hpG
        rw [← y, z.1] at e3
        cases e3
      · intro y
        rw [← y, z.1] at hlG
        cases hlG
    have potU : ∀ {G : Hp} {ys : List V}, PotAt G p → PotAt (upd G l (.lst ys)) p := by
      intro G ys h
      obtain ⟨r, g, e, hh⟩ := h
      exact ⟨r, g, by rw [upd_ne nlp.symm]; exact e, hh⟩
    have butU : ∀ {G : Hp} {ys : List V}, But p H G → But p H (upd G l (.lst ys)) := by
      intro G ys h c o nc hc
      have nlc : c ≠ l := by
        intro z
        rw [z, nl] at hc
        cases hc
      rw [upd_ne nlc]
      exact h _ _ nc hc
    have endT : ∀ (G : Hp) (ws : List V) (es : List PyData), Els (Off p l) G ws es → ws.length ≤ 6 → PotAt G p → But p H G → ∀ t, G t = none → Q (.ref t) (upd G t (.tup ws)) := by
      intro G ws es h hw hpG bG t nt
      have stt := same_new (o := .tup ws) nt
      have hl := h.length
      refine fin _ _ (hpG.same stt) (bG.new nt) ⟨.tuple es, .tup upd_same ?_, (Fit.tup h.fits).mono (by omega) (by decide)⟩
      exact (ShOs.keep (fun a zs (o : Apart p a) e => stt _ _ e) (fun _ _ e => stt _ _ e) (fun _ _ e => stt _ _ e) (h.map fun z => ShO.mono (fun a (o : Off p l a) => (⟨o.1, o.2.2⟩ : Apart p a)) z).shos)
    have endL : ∀ (G : Hp) (ws : List V) (es : List PyData), G l = some (.lst ws) → Els (Off p l) G ws es → ws.length ≤ 6 → PotAt G p → But p H G → Q (.ref l) G := by
      intro G ws es e1 h hw hpG bG
      have hl := h.length
      refine fin _ _ hpG bG ⟨.list es, .lst e1 ⟨nlp, zl⟩ ?_, (Fit.lst h.fits).mono (by omega) (by decide)⟩
      exact (h.map fun z => ShO.mono (fun a (o : Off p l a) => (⟨o.1, o.2.2⟩ : Apart p a)) z).shos
    have ins : ∀ {G : Hp} {ws : List V} {es : List PyData} {y : V} {d : PyData} {i : Nat}, Els (Off p l) G ws es → ShO (Off p l) G y d → Fit 1400 8 d → Els (Off p l) G (ws.take i ++ [y] ++ ws.drop i) (es.take i ++ [d] ++ es.drop i) := by
      intro G ws es y d i h1 h2 h3
      obtain ⟨x1, x2⟩ := h1.split i
      exact (x1.append (.cons h2 h3 .nil)).append x2
    have insL : ∀ {ws : List V} {y : V} {i : Nat}, ws.length ≤ 5 → (ws.take i ++ [y] ++ ws.drop i).length ≤ 6 := by
      intro ws y i h
      rw [List.length_append, List.length_append, List.length_take, List.length_drop, List.length_singleton]
      omega
    refine ⟨_, _, _, rfl, ?_⟩
    have : w0 = 0 ∨ w0 = 1 ∨ w0 = 2 ∨ w0 = 3 ∨ w0 = 4 ∨ w0 = 5 ∨ w0 = 6 := by omega
    rcases this with rfl | rfl | rfl | rfl | rfl | rfl | rfl
    · -- a step put in
      refine ⟨.int 0, rfl, rfl, _, rfl, ifI_eq ?_⟩
      refine ⟨.ref l, rfl, .inl ⟨rfl, _, .inl (.inl l2)⟩, .int q0, rfl, .ref p, rfl, .int n, rfl, p, n, rfl, hp2, hn1, hn2, fun H3 y d hp3 b3 sy fy => ?_⟩
      have l3 := b3 _ _ nlp l2
      refine ⟨l, us, q0, y, rfl, rfl, l3, sz1 (by omega), q1, by omega, ?_⟩
      have sy2 : ShO (Off p l) H3 y d := ShO.mono (fun a z => newOff hp2 l2 z) sy
      obtain ⟨r2, g2, ep2, _⟩ := id hp2
      have e3 : Els (Off p l) H3 us ds := e2.map fun z => z.but (fun a o => o.1) ep2 b3
      have e4 := eu (ys := us.take q0.toNat ++ [y] ++ us.drop q0.toNat) l3 (ins (i := q0.toNat) e3 sy2 fy)
      refine ⟨.int 0, rfl, rfl, _, rfl, ifI_ne (by decide) ⟨.int 0, rfl, rfl, _, rfl, ifI_ne (by decide) (iteF ⟨.int 0, rfl, rfl, _, rfl, ifI_ne (by decide) (iteF ⟨.int 0, rfl, rfl, _, rfl, ifI_ne (by decide) (iteF ⟨.int 0, rfl, rfl, _, rfl, ifI_ne (by decide) ?_⟩)⟩)⟩)⟩⟩
      exact ⟨.ref l, rfl, l, _, rfl, .inl ⟨.inl (.inl upd_same), endT _ _ _ e4 (insL hlen) (potU hp3) (butU (b02.trans b3))⟩⟩
    · -- a next step put in
      refine ⟨.int 1, rfl, rfl, _, rfl, ifI_ne (by decide) ⟨.int 1, rfl, rfl, _, rfl, ifI_eq ?_⟩⟩
      refine ⟨.ref l, rfl, .inl ⟨rfl, _, .inl (.inl l2)⟩, .int q0, rfl, (by decide : 1 ≤ sizeLine), fun t nt => ?_⟩
      have stt := same_new (o := .tup [.str "next"]) nt
      have et : (upd H2 t (.tup [.str "next"])) t = some (.tup [.str "next"]) := upd_same
      generalize upd H2 t (.tup [.str "next"]) = H3 at stt et ⊢
      have l3 := stt _ _ l2
      refine ⟨l, us, q0, .ref t, rfl, rfl, l3, sz1 (by omega), q1, by omega, ?_⟩
      have sa : StepAt n H3 (.ref t) (.tuple [.str "next"]) := .nx et
      have e3 : Els (Off p l) H3 us ds := e2.map fun z => z.same stt
      have e4 := eu (ys := us.take q0.toNat ++ [.ref t] ++ us.drop q0.toNat) l3 (ins (i := q0.toNat) e3 sa.sho ((sa.fit hn2).mono (by decide) (by decide)))
      refine ⟨.int 1, rfl, rfl, _, rfl, ifI_ne (by decide) (iteF ⟨.int 1, rfl, rfl, _, rfl, ifI_ne (by decide) (iteF ⟨.int 1, rfl, rfl, _, rfl, ifI_ne (by decide) (iteF ⟨.int 1, rfl, rfl, _, rfl, ifI_ne (by decide) ?_⟩)⟩)⟩)⟩
      exact ⟨.ref l, rfl, l, _, rfl, .inl ⟨.inl (.inl upd_same), endT _ _ _ e4 (insL hlen) (potU (hp2.same stt)) (butU (fun c o nc hc => stt _ _ (b02 _ _ nc hc)))⟩⟩
    · -- a step replaced
      refine ⟨.int 2, rfl, rfl, _, rfl, ifI_ne (by decide) ⟨.int 2, rfl, rfl, _, rfl, ifI_ne (by decide) ⟨.int 2, rfl, rfl, _, rfl, ifI_eq ?_⟩⟩⟩
      refine ⟨.ref S, rfl, (by decide : 0 ≤ sizeLine), fun t nt => ?_⟩
      have stt := same_new (o := .lst []) nt
      have et : (upd H2 t (.lst [])) t = some (.lst []) := upd_same
      generalize upd H2 t (.lst []) = H3 at stt et ⊢
      have l3 := stt _ _ l2
      have S3 := stt _ _ S2
      have hp3 := hp2.same stt
      have b03 : But p H H3 := fun c o nc hc => stt _ _ (b02 _ _ nc hc)
      have e3 : Els (Off p l) H3 us ds := e2.map fun z => z.same stt
      refine ⟨.list ds, .list [], .lst (.inl (.inl S3)) (st2.map fun z => z.same stt).dps, .lst (.inl (.inl et)) .nil, st2.shaped hn2, rfl, _, rfl, ?_⟩
      rw [eqv_nil]
      by_cases hd : ds = []
      · rw [decide_eq_true hd]
        refine iteF ⟨.int 2, rfl, rfl, _, rfl, ifI_ne (by decide) (iteF ⟨.int 2, rfl, rfl, _, rfl, ifI_ne (by decide) (iteF ⟨.int 2, rfl, rfl, _, rfl, ifI_ne (by decide) ?_⟩)⟩)⟩
        exact ⟨.ref l, rfl, l, _, rfl, .inl ⟨.inl (.inl l3), endT _ _ _ e3 (by omega) hp3 b03⟩⟩
      · rw [decide_eq_false hd]
        have dp : 0 < us.length := by
          rw [dl]
          exact List.length_pos_iff.mpr hd
        refine iteT ?_
        refine ⟨.ref p, rfl, .int n, rfl, p, n, rfl, hp3, hn1, hn2, fun H4 y d hp4 b4 sy fy => ?_⟩
        have l4 := b4 _ _ nlp l3
        have S4 := b4 _ _ nSp S3
        obtain ⟨ix, hix0, hix1, hixe⟩ : ∃ ix : Int, 0 ≤ ix ∧ ix < us.length ∧ ix = (if (us.length : Int) - 1 < q0 then (us.length : Int) - 1 else q0) := ⟨_, by split <;> omega, by split <;> omega, rfl⟩
        have hixn : ixN us.length ix = some ix.toNat := by
          unfold ixN
          rw [if_pos hix0, if_pos hix1]
        refine ⟨.ref l, rfl, .int q0, rfl, .ref S, rfl, S, us, rfl, .inl (.inl (.inl S4)), _, _, rfl, rfl, _, _, rfl, l, us, _, ix.toNat, rfl, rfl, l4, (by rw [← hixe]; exact hixn), ?_⟩
        have sy2 : ShO (Off p l) H4 y d := ShO.mono (fun a z => newOff hp3 l3 z) sy
        obtain ⟨r2, g2, ep3, _⟩ := id hp3
        have e4 : Els (Off p l) H4 us ds := e3.map fun z => z.but (fun a o => o.1) ep3 b4
        have e5 := eu (ys := us.set ix.toNat y) l4 (e4.set sy2 fy ix.toNat)
        refine ⟨.int 2, rfl, rfl, _, rfl, ifI_ne (by decide) (iteF ⟨.int 2, rfl, rfl, _, rfl, ifI_ne (by decide) (iteF ⟨.int 2, rfl, rfl, _, rfl, ifI_ne (by decide) ?_⟩)⟩)⟩
        exact ⟨.ref l, rfl, l, _, rfl, .inl ⟨.inl (.inl upd_same), endT _ _ _ e5 (by rw [List.length_set]; omega) (potU hp4) (butU (b03.trans b4))⟩⟩
    · -- a step given as a list
      refine ⟨.int 3, rfl, rfl, _, rfl, ifI_ne (by decide) ⟨.int 3, rfl, rfl, _, rfl, ifI_ne (by decide) ⟨.int 3, rfl, rfl, _, rfl, ifI_ne (by decide) (iteF ⟨.int 3, rfl, rfl, _, rfl, ifI_eq ?_⟩)⟩⟩⟩
      refine ⟨.ref S, rfl, (by decide : 0 ≤ sizeLine), fun t nt => ?_⟩
      have stt := same_new (o := .lst []) nt
      have et : (upd H2 t (.lst [])) t = some (.lst []) := upd_same
      generalize upd H2 t (.lst []) = H3 at stt et ⊢
      have l3 := stt _ _ l2
      have S3 := stt _ _ S2
      have hp3 := hp2.same stt
      have b03 : But p H H3 := fun c o nc hc => stt _ _ (b02 _ _ nc hc)
      have e3 : Els (Off p l) H3 us ds := e2.map fun z => z.same stt
      have st3 := st2.map fun z => z.same stt
      refine ⟨.list ds, .list [], .lst (.inl (.inl S3)) st3.dps, .lst (.inl (.inl et)) .nil, st2.shaped hn2, rfl, _, rfl, ?_⟩
      rw [eqv_nil]
      by_cases hd : ds = []
      · rw [decide_eq_true hd]
        refine iteF ⟨.int 3, rfl, rfl, _, rfl, ifI_ne (by decide) (iteF ⟨.int 3, rfl, rfl, _, rfl, ifI_ne (by decide) ?_⟩)⟩
        exact ⟨.ref l, rfl, l, _, rfl, .inl ⟨.inl (.inl l3), endT _ _ _ e3 (by omega) hp3 b03⟩⟩
      · rw [decide_eq_false hd]
        have dp : 0 < us.length := by
          rw [dl]
          exact List.length_pos_iff.mpr hd
        refine iteT ?_
        obtain ⟨ix, hix0, hix1, hixe⟩ : ∃ ix : Int, 0 ≤ ix ∧ ix < us.length ∧ ix = (if (us.length : Int) - 1 < q0 then (us.length : Int) - 1 else q0) := ⟨_, by split <;> omega, by split <;> omega, rfl⟩
        have hixn : ixN us.length ix = some ix.toNat := by
          unfold ixN
          rw [if_pos hix0, if_pos hix1]
        have hxl : ix.toNat < us.length := by omega
        obtain ⟨y, hy⟩ : ∃ y, us[ix.toNat]? = some y := ⟨_, List.getElem?_eq_getElem hxl⟩
        obtain ⟨d, hdy, sty⟩ := st3.get hy
        obtain ⟨ty, tys, tds, rfl, rfl, hty, htd, htf⟩ : ∃ (ty : Addr) (tys : List V) (tds : List PyData), y = .ref ty ∧ d = .tuple tds ∧ H3 ty = some (.tup tys) ∧ ShOs (Off p l) H3 tys tds ∧ FitAll 700 4 tds := by
          have hf := sty.fit hn2
          have hs : ShO (Off p l) H3 y d := sty.sho
          cases sty with
          | nx e =>
            cases hs with
            | tup e' a => exact ⟨_, _, _, rfl, rfl, e', a, fit_tup4 hf⟩
          | say e h =>
            cases hs with
            | tup e' a => exact ⟨_, _, _, rfl, rfl, e', a, fit_tup4 hf⟩
          | call e h h1 h2 h3 h4 =>
            cases hs with
            | tup e' a => exact ⟨_, _, _, rfl, rfl, e', a, fit_tup4 hf⟩
        have hat : atI us ix = some (.ref ty) := by
          unfold atI
          rw [hixn]
          exact hy
        refine ⟨.ref l, rfl, .int q0, rfl, .ref S, rfl, S, us, rfl, .inl (.inl (.inl S3)), _, _, rfl, rfl, _, _, rfl, l, us, _, .ref ty, rfl, rfl, .inl (.inl l3), (by rw [← hixe]; exact hat), ?_⟩
        refine ⟨ty, tys, rfl, .inl (.inl hty), fun c nc zc => ?_⟩
        have stc := same_new (o := .lst tys) nc
        have ec : (upd H3 c (.lst tys)) c = some (.lst tys) := upd_same
        generalize upd H3 c (.lst tys) = H4 at stc ec ⊢
        have l4 := stc _ _ l3
        have S4 := stc _ _ S3
        have hp4 := hp3.same stc
        refine ⟨.ref l, rfl, .int q0, rfl, .ref S, rfl, S, us, rfl, .inl (.inl (.inl S4)), _, _, rfl, rfl, _, _, rfl, l, us, _, ix.toNat, rfl, rfl, l4, (by rw [← hixe]; exact hixn), ?_⟩
        have sy2 : ShO (Off p l) H4 (.ref c) (.list tds) := .lst ec (newOff hp3 l3 ⟨nc, zc⟩) (htd.same stc)
        have e4 : Els (Off p l) H4 us ds := e3.map fun z => z.same stc
        have e5 := eu (ys := us.set ix.toNat (.ref c)) l4 (e4.set sy2 ((Fit.lst htf).mono (by decide) (by decide)) ix.toNat)
        refine ⟨.int 3, rfl, rfl, _, rfl, ifI_ne (by decide) (iteF ⟨.int 3, rfl, rfl, _, rfl, ifI_ne (by decide) ?_⟩)⟩
        exact ⟨.ref l, rfl, l, _, rfl, .inl ⟨.inl (.inl upd_same), endT _ _ _ e5 (by rw [List.length_set]; omega) (potU hp4) (butU (fun c o nc hc => stc _ _ (b03 _ _ nc hc)))⟩⟩
    · -- a step doubled
      refine ⟨.int 4, rfl, rfl, _, rfl, ifI_ne (by decide) ⟨.int 4, rfl, rfl, _, rfl, ifI_ne (by decide) ⟨.int 4, rfl, rfl, _, rfl, ifI_ne (by decide) (iteF ⟨.int 4, rfl, rfl, _, rfl, ifI_ne (by decide) (iteF ⟨.int 4, rfl, rfl, _, rfl, ifI_eq ?_⟩)⟩)⟩⟩⟩
      refine ⟨.ref S, rfl, (by decide : 0 ≤ sizeLine), fun t nt => ?_⟩
      have stt := same_new (o := .lst []) nt
      have et : (upd H2 t (.lst [])) t = some (.lst []) := upd_same
      generalize upd H2 t (.lst []) = H3 at stt et ⊢
      have l3 := stt _ _ l2
      have S3 := stt _ _ S2
      have hp3 := hp2.same stt
      have b03 : But p H H3 := fun c o nc hc => stt _ _ (b02 _ _ nc hc)
      have e3 : Els (Off p l) H3 us ds := e2.map fun z => z.same stt
      have st3 := st2.map fun z => z.same stt
      refine ⟨.list ds, .list [], .lst (.inl (.inl S3)) st3.dps, .lst (.inl (.inl et)) .nil, st2.shaped hn2, rfl, _, rfl, ?_⟩
      rw [eqv_nil]
      by_cases hd : ds = []
      · rw [decide_eq_true hd]
        refine iteF ⟨.int 4, rfl, rfl, _, rfl, ifI_ne (by decide) ?_⟩
        exact ⟨.ref l, rfl, l, _, rfl, .inl ⟨.inl (.inl l3), endT _ _ _ e3 (by omega) hp3 b03⟩⟩
      · rw [decide_eq_false hd]
        have dp : 0 < us.length := by
          rw [dl]
          exact List.length_pos_iff.mpr hd
        refine iteT ?_
        obtain ⟨ix, hix0, hix1, hixe⟩ : ∃ ix : Int, 0 ≤ ix ∧ ix < us.length ∧ ix = (if (us.length : Int) - 1 < q0 then (us.length : Int) - 1 else q0) := ⟨_, by split <;> omega, by split <;> omega, rfl⟩
        have hixn : ixN us.length ix = some ix.toNat := by
          unfold ixN
          rw [if_pos hix0, if_pos hix1]
        have hxl : ix.toNat < us.length := by omega
        obtain ⟨y, hy⟩ : ∃ y, us[ix.toNat]? = some y := ⟨_, List.getElem?_eq_getElem hxl⟩
        obtain ⟨d, hdy, sy, fy⟩ := e3.get hy
        have hat : atI us ix = some y := by
          unfold atI
          rw [hixn]
          exact hy
        refine ⟨.ref l, rfl, .inl ⟨rfl, _, .inl (.inl l3)⟩, .int q0, rfl, .ref l, rfl, .int q0, rfl, .ref S, rfl, S, us, rfl, .inl (.inl (.inl S3)), _, _, rfl, rfl, _, _, rfl, l, us, _, y, rfl, rfl, .inl (.inl l3), (by rw [← hixe]; exact hat), ?_⟩
        refine ⟨l, us, q0, y, rfl, rfl, l3, sz1 (by omega), q1, by omega, ?_⟩
        have e4 := eu (ys := us.take q0.toNat ++ [y] ++ us.drop q0.toNat) l3 (ins (i := q0.toNat) e3 sy fy)
        refine ⟨.int 4, rfl, rfl, _, rfl, ifI_ne (by decide) ?_⟩
        exact ⟨.ref l, rfl, l, _, rfl, .inl ⟨.inl (.inl upd_same), endT _ _ _ e4 (insL hlen) (potU hp3) (butU b03)⟩⟩
    · -- the list itself
      refine ⟨.int 5, rfl, rfl, _, rfl, ifI_ne (by decide) ⟨.int 5, rfl, rfl, _, rfl, ifI_ne (by decide) ⟨.int 5, rfl, rfl, _, rfl, ifI_ne (by decide) (iteF ⟨.int 5, rfl, rfl, _, rfl, ifI_ne (by decide) (iteF ⟨.int 5, rfl, rfl, _, rfl, ifI_ne (by decide) (iteF ⟨.int 5, rfl, rfl, _, rfl, ifI_eq ?_⟩)⟩)⟩)⟩⟩⟩
      exact ⟨.ref l, rfl, endL _ _ _ l2 e2 (by omega) hp2 b02⟩
    · refine ⟨.int 6, rfl, rfl, _, rfl, ifI_ne (by decide) ⟨.int 6, rfl, rfl, _, rfl, ifI_ne (by decide) ⟨.int 6, rfl, rfl, _, rfl, ifI_ne (by decide) (iteF ⟨.int 6, rfl, rfl, _, rfl, ifI_ne (by decide) (iteF ⟨.int 6, rfl, rfl, _, rfl, ifI_ne (by decide) (iteF ⟨.int 6, rfl, rfl, _, rfl, ifI_ne (by decide) ?_⟩)⟩)⟩)⟩⟩⟩
      exact ⟨.ref l, rfl, l, _, rfl, .inl ⟨.inl (.inl l2), endT _ _ _ e2 (by omega) hp2 b02⟩⟩
end
end Lw
namespace Lw
open PySem PySem.Spec PyProof.Rows L2 Kv
abbrev NCell : List Str := ["_law_pot_here", "_law_amount", "_law_turn", "_law_steps", "_law_plain", "_law_changed_here", "_law_step_here", "_law_place", "_law_each"]
theorem scCell : FnScope NCell ["_law_pot_here"] (defScope sCell) :=
  ⟨rfl, rfl, rfl, by decide +kernel, rfl, by decide +kernel, by decide +kernel⟩
section
variable {P : Program} {w : World} {K : PySem.W.Frag} {mg : Str → Option Value} {base : Heap}
theorem units65 {k : Nat} {A : Around} (r : Room k A) : A.units + 65 < cLine := by
  have := r.un
  omega
theorem next_shaped : SeqAt.shaped (.tuple [.str "next"]) = true := by decide +kernel
theorem body_steps {n : Int} {H : Hp} {us : List V} {ds : List PyData} (h : Steps n H us ds) (hc : (ds.filter nextD).length ≤ 1) : bodyD n (.tuple ds) = true := by
  show (ds.all (stepD n) && decide ((ds.filter nextD).length ≤ 1)) = true
  rw [h.oks, decide_eq_true hc]
  rfl
def spCell : Sp := fun vs H Q _ => ∃ (p : Addr), vs = [.ref p] ∧ PotAt H p ∧ ∀ H', PotAt H' p → But p H H' → Q (.bl true) H'
theorem ok_cell {f fD fS fB fR fC fO : Addr} {fd fdD fdS fdB fdR fdC fdO : FuncData} {k : Nat} (F : Fun K "_law_cell_right" "_law_cell_right" sCell f fd) (low : sysModules < base.objs.size)
    (FD : Fun K "_law_draw" "_law_draw" sDraw fD fdD) (bD : Binds K fdD ["_law_pot_here", "_law_many"] []) (gD : mg "_law_draw" = some (.ref fD))
    (FS : Fun K "_law_step" "_law_step" sStep fS fdS) (bS : Binds K fdS ["_law_pot_here", "_law_amount"] []) (gS : mg "_law_step" = some (.ref fS))
    (FB : Fun K "is_body" "is_body" sIsBody fB fdB) (bB : Binds K fdB ["value", "count"] []) (gB : mg "is_body" = some (.ref fB))
    (FR : Fun K "_law_right" "_law_right" sRight fR fdR) (bR : Binds K fdR ["_law_thing", "_law_amount"] []) (gR : mg "_law_right" = some (.ref fR))
    (FC : Fun K "_law_changed" "_law_changed" sChg fC fdC) (bC : Binds K fdC ["_law_pot_here", "_law_steps", "_law_amount"] []) (gC : mg "_law_changed" = some (.ref fC))
    (FO : Fun K "_law_odd_step" "_law_odd_step" sOddS fO fdO) (bO : Binds K fdO ["_law_pot_here", "_law_amount"] []) (gO : mg "_law_odd_step" = some (.ref fO))
    (GD : FnOk P w K mg base CX0 (k + 1) fD fdD ["_law_pot_here", "_law_many"] spDraw) (GS : FnOk P w K mg base CX0 (k + 3) fS fdS ["_law_pot_here", "_law_amount"] spStep)
    (GB : FnOk P w K mg base CX0 (k + 5) fB fdB ["value", "count"] (spBody K)) (GR : FnG P w K mg base CX0 (k + 6) fR fdR ["_law_thing", "_law_amount"] (spRight K))
    (GC : FnOk P w K mg base CX0 (k + 4) fC fdC ["_law_pot_here", "_law_steps", "_law_amount"] spChg) (GO : FnOk P w K mg base CX0 (k + 3) fO fdO ["_law_pot_here", "_law_amount"] spOddS)
    (mr : mg "range" = none) (mT : mg "tuple" = none) (ma : mg "all" = none) (me : mg "enumerate" = none) :
    FnG P w K mg base CX0 (k + 7) f fd ["_law_pot_here"] spCell := by
  refine okG F scCell (fun vs H Q E h => ?_) (fun cdv A outer s H vs Q E hg hr h => ?_)
  · obtain ⟨p, rfl, _⟩ := h
    rfl
  · obtain ⟨p, rfl, hp, fin⟩ := h
    have hr1 := hr.mono (by omega : k + 1 ≤ k + 6)
    have hr3 := hr.mono (by omega : k + 3 ≤ k + 6)
    have hr4 := hr.mono (by omega : k + 4 ≤ k + 6)
    have hr5 := hr.mono (by omega : k + 5 ≤ k + 6)
    refine ⟨_, pss_cons (ps_set (i := 1) scCell.nd rfl (.inr rfl) (pe_op op_add pe_int (pe_call GD hr1 (by rfl) gD FD.kp bD .nil pass0 (pa_cons (pv 0) (pa_cons pe_int pa_nil)))))
      (pss_cons (ps_for PassesOwn.never rfl (pi_range1 rfl mr (pa_cons pe_int pa_nil)) (pg_name (i := 2) scCell.nd rfl (.inl rfl))
        (pss_cons (ps_set (i := 3) scCell.nd rfl (.inr rfl)
            (pe_lc (own := [("_law_step_here", 6)]) (g := gName 6) (tt := tYes) rfl scCell.nd (pi_range1 rfl mr (pa_cons (pe_call GD hr1 (by rfl) gD FD.kp bD .nil pass0 (pa_cons (pv 0) (pa_cons pe_int pa_nil))) pa_nil))
              (blkOk_by (own := [("_law_step_here", 6)]) (N := NCell) (sc := defScope sCell) (by decide +kernel))
              (fun _ _ _ _ _ => pg_name (i := 6) scCell.nd rfl (Or.inl rfl)) (fun _ _ _ _ _ => pts_nil)
              (fun _ _ _ _ _ => pe_call GS hr3 (by rfl) gS FS.kp bS .nil pass0 (pa_cons (pv 0) (pa_cons (pv 1) pa_nil)))))
        (pss_cons (ps_setLc (i := 4) (own := [("_law_place", 7), ("_law_step_here", 6)]) (g := gTup K 2 (gCons (gName 7) (gCons (gName 6) gNil)))
              (tt := tOr (tTest (tOp (rNeD K) (tVar 6) (tTup (tCons (tC (.str "next")) tNil)))) (tTest (tOp (rNotInD K) (tTup (tCons (tC (.str "next")) tNil)) (tSl (rSlL K) (tVar 3) tNoPart (tPart (tVar 7)))))) (te := tVar 6) rfl scCell.nd rfl rfl
              (sw_true rfl rfl rfl (by decide +kernel)) (pi_enumS (by rfl) me (pa_cons (pv 3) pa_nil))
              (blkOk_by (own := [("_law_place", 7), ("_law_step_here", 6)]) (N := NCell) (sc := defScope sCell) (by decide +kernel))
              (fun _ _ _ _ _ => pg_tup rfl (pgs_cons (pg_name (i := 7) scCell.nd rfl (.inl rfl)) (pgs_cons (pg_name (i := 6) scCell.nd rfl (.inl rfl)) pgs_nil)))
              (fun _ _ _ _ _ => pts_one (PW.pt (pw_or (pt_cmpR (op_neD hr.units) (pv 6) (pe_tup (pa_cons pe_str pa_nil)) (nomark _))
                (pw_or1 (pt_cmpR (op_notInD (units65 hr)) (pe_tup (pa_cons pe_str pa_nil)) (pe_slice sl_list (pv 3) po_none (po_some (pv 7))) (by rfl))))))
              (fun _ _ _ _ _ => pv 6))
        (pss_cons (ps_if (PW.pt (pw_or (pt_cmpR op_notBl (pe_call GB hr5 (by rfl) gB FB.kp bB .nil pass0 (pa_cons (pe_callTy call_tuple_of (by rfl) mT (by decide +kernel) (pa_cons (pv 4) pa_nil)) (pa_cons (pv 1) pa_nil))) pe_bl (nomark _))
            (pw_or1 (pt_not (pt_val (pe_callG GR hg hr (by rfl) gR FR.kp bR .nil pass0 (pa_cons (pe_callTy call_tuple_of (by rfl) mT (by decide +kernel) (pa_cons (pv 3) pa_nil)) (pa_cons (pv 1) pa_nil))))))))
          (pss_one (ps_ret pe_bl)) pss_nil)
        (pss_cons (ps_set (i := 5) scCell.nd rfl (.inr rfl) (pe_call GC hr4 (by rfl) gC FC.kp bC .nil pass0 (pa_cons (pv 0) (pa_cons (pv 4) (pa_cons (pv 1) pa_nil)))))
        (pss_cons (ps_if (pt_not (pt_val (pe_callB (cr_all rfl) (by rfl) ma (by decide +kernel) (pa_cons
            (pe_lc (own := [("_law_each", 8)]) (g := gName 8) (tt := tYes) rfl scCell.nd (pi_list (pe_lst (pa_cons (pv 1) (pa_cons pe_int (pa_cons pe_int (pa_cons pe_int pa_nil))))))
              (blkOk_by (own := [("_law_each", 8)]) (N := NCell) (sc := defScope sCell) (by decide +kernel))
              (fun _ _ _ _ _ => pg_name (i := 8) scCell.nd rfl (Or.inl rfl)) (fun _ _ _ _ _ => pts_nil)
              (fun _ _ _ _ _ => pe_callG GR hg hr (by rfl) gR FR.kp bR .nil pass0 (pa_cons (pv 5) (pa_cons (pv 8) pa_nil)))) pa_nil)))) (pss_one (ps_ret pe_bl)) pss_nil)
        (pss_one (ps_if (pt_not (pt_val (pe_callG GR hg hr (by rfl) gR FR.kp bR .nil pass0 (pa_cons (pe_call GO hr3 (by rfl) gO FO.kp bO .nil pass0 (pa_cons (pv 0) (pa_cons (pv 1) pa_nil))) (pa_cons (pv 1) pa_nil)))))
          (pss_one (ps_ret pe_bl)) pss_nil))))))))
      (pss_one (ps_ret (pe_and (pe_cmpR op_isBl (pe_call GB hr5 (by rfl) gB FB.kp bB .nil pass0 (pa_cons (pe_tup pa_nil) (pa_cons (pv 1) pa_nil))) pe_bl (nomark _))
        (pe_one (pe_cmpR op_isBl (pe_call GB hr5 (by rfl) gB FB.kp bB .nil pass0 (pa_cons (pe_lst pa_nil) (pa_cons (pv 1) pa_nil))) pe_bl (nomark _))))))), ?_⟩
    refine ⟨.ref p, rfl, p, 3, rfl, hp, by decide, by decide, fun H1 m0 m1 m2 hp1 b1 => ?_⟩
    obtain ⟨n, hn⟩ : ∃ n, n = 1 + m0 := ⟨_, rfl⟩
    have hn1 : 1 ≤ n := by omega
    have hn2 : n ≤ 3 := by omega
    refine ⟨_, _, rfl, rfl, 20, rfl, by decide, by decide, ?_⟩
    show _
    rw [show (fun i j : Int => V.int (i + j)) 1 m0 = V.int n from by rw [hn]]
    refine for_range (lo := 0) (n := 20) (fun i σ H3 => ∃ y2 y3 y4 y5, σ = [some (.ref p), some (.int n), y2, y3, y4, y5, none, none, none] ∧ PotAt H3 p ∧ But p H H3)
      ⟨none, none, none, none, rfl, hp1, b1⟩ (fun i σ H3 hi hP => ?_) (fun σ H3 hP => ?_)
    · obtain ⟨y2, y3, y4, y5, rfl, hp3, b3⟩ := hP
      refine ⟨.ref p, rfl, p, 6, rfl, hp3, by decide, by decide, fun H4 c0 c1 c2 hp4 b4 => ?_⟩
      have b04 : But p H H4 := b3.trans b4
      refine ⟨c0, rfl, by omega, by omega, fun D nD => ?_⟩
      have nDp : D ≠ p := by
        intro z
        obtain ⟨_, _, e3, _⟩ := hp4
        rw [z, e3] at nD
        cases nD
      have nD0 : H D = none := but_free hp4 b04 nD
      refine lc_range (lo := 0) (n := c0.toNat) (fun i H5 => ∃ (us : List V) (ds : List PyData), H5 D = some (.lst us) ∧ Steps n H5 us ds ∧ us.length = i ∧ PotAt H5 p ∧ But p H H5)
        ⟨[], [], upd_same, .nil, rfl, hp4.same (same_new nD), b04.new nD⟩ (fun j H5 hj hP => ?_) (fun H5 hP => ?_)
      · obtain ⟨us, ds, e1, e2, e3, hp5, b5⟩ := hP
        refine ⟨rfl, .ref p, rfl, .int n, rfl, p, n, rfl, hp5, hn1, hn2, fun H6 v d hp6 b6 sv => ?_⟩
        have e6 := b6 _ _ nDp e1
        have st6 : Steps n H6 us ds := e2.map fun z => z.but hp5 b6
        refine ⟨us, e6, sz1 (by omega), us ++ [v], ds ++ [d], upd_same, (st6.snoc sv).map (fun z => z.lst e6), ?_, ?_, ?_⟩
        · rw [List.length_append, e3]
          rfl
        · obtain ⟨r, g, e, hh⟩ := hp6
          exact ⟨r, g, by rw [upd_ne nDp.symm]; exact e, hh⟩
        · intro c o nc hc
          rw [upd_ne (ne_of_none hc nD0)]
          exact b6 _ _ nc (b5 _ _ nc hc)
      · obtain ⟨us, ds, e1, e2, e3, hp5, b5⟩ := hP
        have ul : us.length ≤ 5 := by omega
        have dl := e2.length
        refine ⟨.ref D, rfl, .inl ⟨D, us, rfl, .inl (.inl e1), fun L nL => ?_⟩⟩
        have nLp : L ≠ p := by
          intro z
          obtain ⟨_, _, e3, _⟩ := hp5
          rw [z, e3] at nL
          cases nL
        have nLD : D ≠ L := ne_of_none e1 nL
        refine lc_it (walk_enum (xs := us)) (fun j H6 => ∃ (ws : List V) (es : List PyData), H6 L = some (.lst ws) ∧ Steps n H6 ws es ∧ ws.length ≤ j ∧ (es.filter nextD).length ≤ 1 ∧ ((ds.take j).any nextD = false → (es.filter nextD).length = 0) ∧ (∀ b o, b ≠ L → H5 b = some o → H6 b = some o))
          ⟨[], [], upd_same, .nil, Nat.le_refl _, Nat.zero_le _, fun _ => rfl, fun b o nb hb => by rw [upd_ne nb]; exact hb⟩ (fun j H6 _ hP => ?_) (fun j v H6 H7 hj hP hY => ?_) (fun H6 hP => ?_)
        · obtain ⟨ws, es, g1, g2, g3, g4, g5, g6⟩ := hP
          exact .inl (.inl (g6 _ _ nLD e1))
        · obtain ⟨ws, es, g1, g2, g3, g4, g5, g6⟩ := hP
          obtain ⟨T, x, y, rfl, nT, rfl, t1, t2⟩ := hY
          cases t1
          have sT := same_new (o := .tup [.int (j : Nat), y]) nT
          have eT : (upd H6 T (.tup [.int (j : Nat), y])) T = some (.tup [.int (j : Nat), y]) := upd_same
          generalize upd H6 T (.tup [.int (j : Nat), y]) = H7 at sT eT ⊢
          have k6 : ∀ b o, H5 b = some o → H6 b = some o := fun b o hb => g6 b o (ne_of_none hb nL) hb
          obtain ⟨d, hd, sd⟩ := e2.get t2
          have sd7 : StepAt n H7 y d := (sd.same k6).same sT
          have D7 := sT _ _ (k6 _ _ e1)
          have L7 := sT _ _ g1
          refine ⟨T, _, rfl, .inl (.inl eT), rfl, _, _, rfl, _, _, rfl, rfl, rfl, ?_⟩
          refine ⟨y, rfl, (by decide : 1 ≤ sizeLine), fun t nt => ?_⟩
          have st := same_new (o := .tup [.str "next"]) nt
          have et : (upd H7 t (.tup [.str "next"])) t = some (.tup [.str "next"]) := upd_same
          generalize upd H7 t (.tup [.str "next"]) = H8 at st et ⊢
          have sd8 := sd7.same st
          refine ⟨d, .tuple [.str "next"], sd8.dp, .tup (.inl (.inl et)) (.cons (.str _) .nil), sd8.shaped hn2, next_shaped, _, rfl, ?_⟩
          rw [sd8.eqNext]
          have put : ∀ H9 : Hp, Same H8 H9 → (nextD d = true → (ds.take j).any nextD = false) → ∃ acc, H9 L = some (.lst acc) ∧ acc.length < sizeLine ∧ ∃ (ws' : List V) (es' : List PyData), (upd H9 L (.lst (acc ++ [y]))) L = some (.lst ws') ∧ Steps n (upd H9 L (.lst (acc ++ [y]))) ws' es' ∧ ws'.length ≤ j + 1 ∧ (es'.filter nextD).length ≤ 1 ∧
              ((ds.take (j + 1)).any nextD = false → (es'.filter nextD).length = 0) ∧ (∀ b o, b ≠ L → H5 b = some o → (upd H9 L (.lst (acc ++ [y]))) b = some o) := by
            intro H9 s9 hz
            have L9 := s9 _ _ (st _ _ L7)
            have q9 : Same H6 H9 := sT.trans (st.trans s9)
            refine ⟨ws, L9, sz1 (by omega), ws ++ [y], es ++ [d], upd_same, ((g2.map fun z => z.same q9).snoc (sd8.same s9)).map (fun z => z.lst L9), ?_, ?_, ?_, ?_⟩
            · rw [List.length_append, List.length_singleton]
              omega
            · rw [List.filter_append, List.length_append]
              cases hx : nextD d with
              | true =>
                have := g5 (hz hx)
                rw [List.filter_cons_of_pos (by exact hx), List.filter_nil, List.length_singleton]
                omega
              | false =>
                rw [List.filter_cons_of_neg (by rw [hx]; decide), List.filter_nil, List.length_nil]
                omega
            · intro hq
              rw [List.take_add_one, hd, List.any_append, Bool.or_eq_false_iff] at hq
              have hx : nextD d = false := by
                have := hq.2
                simpa using this
              rw [List.filter_append, List.length_append, g5 hq.1, List.filter_cons_of_neg (by rw [hx]; decide), List.filter_nil]
              rfl
            · intro b o nb hb
              rw [upd_ne nb]
              exact q9 _ _ (g6 _ _ nb hb)
          cases hx : nextD d with
          | false =>
            exact iteT ⟨y, rfl, put H8 (Same.refl _) (fun z => by rw [hx] at z; cases z)⟩
          | true =>
            refine iteF ?_
            refine ⟨(by decide : 1 ≤ sizeLine), fun t2 nt2 => ?_⟩
            have st2 := same_new (o := .tup [.str "next"]) nt2
            have et2 : (upd H8 t2 (.tup [.str "next"])) t2 = some (.tup [.str "next"]) := upd_same
            generalize upd H8 t2 (.tup [.str "next"]) = H9 at st2 et2 ⊢
            have D9 := st2 _ _ (st _ _ D7)
            refine ⟨.ref D, rfl, .int (j : Nat), rfl, _, rfl, D, us, rfl, .inl (.inl D9), fun c nc => ?_⟩
            have cutE : cutV us none (some (j : Int)) = us.take j := cut_take
            rw [cutE]
            have st3 := same_new (o := .lst (us.take j)) nc
            have ec : (upd H9 c (.lst (us.take j))) c = some (.lst (us.take j)) := upd_same
            generalize upd H9 c (.lst (us.take j)) = H10 at st3 ec ⊢
            have q10 : Same H5 H10 := fun b o hb => st3 _ _ (st2 _ _ (st _ _ (sT _ _ (k6 _ _ hb))))
            have stk : Steps n H10 (us.take j) (ds.take j) := (e2.map fun z => z.same q10).take j
            refine ⟨.tuple [.str "next"], ds.take j, .tup (.inl (.inl (st3 _ _ et2))) (.cons (.str _) .nil), .lst (.inl (.inl ec)) stk.dps, next_shaped, stk.shaped hn2, _, rfl, ?_⟩
            rw [stk.anyNext]
            cases ha : (ds.take j).any nextD with
            | false => exact iteT ⟨y, rfl, put H10 (st2.trans st3) (fun _ => ha)⟩
            | true =>
              refine iteF ?_
              have q68 : Same H6 H10 := sT.trans (st.trans (st2.trans st3))
              refine ⟨ws, es, q68 _ _ g1, g2.map fun z => z.same q68, by omega, g4, ?_, fun b o nb hb => q68 _ _ (g6 _ _ nb hb)⟩
              intro hq
              rw [List.take_add_one, List.any_append, ha] at hq
              cases hq
        · obtain ⟨ws, es, g1, g2, g3, g4, g5, g6⟩ := hP
          have k6 : ∀ b o, H5 b = some o → H6 b = some o := fun b o hb => g6 b o (ne_of_none hb nL) hb
          have hp6 := hp5.same k6
          have b06 : But p H H6 := fun c o nc hc => k6 _ _ (b5 _ _ nc hc)
          have st6 : Steps n H6 us ds := e2.map fun z => z.same k6
          have D6 := k6 _ _ e1
          refine ⟨.ref L, rfl, L, ws, rfl, .inl ⟨.inl (.inl g1), fun t nt => ?_⟩⟩
          have st := same_new (o := .tup ws) nt
          have et : (upd H6 t (.tup ws)) t = some (.tup ws) := upd_same
          generalize upd H6 t (.tup ws) = H7 at st et ⊢
          have g27 : Steps n H7 ws es := g2.map fun z => z.same st
          have wl := g2.length
          have okA : ∀ {G : Hp} {vs : List V} {qs : List PyData}, Steps n G vs qs → ShAll K false G vs qs := fun z => (z.shos (ok := fun a => a ≠ sysModules)).sh (fun a z => z)
          refine ⟨.int n, rfl, .ref t, false, .tuple es, n, rfl, .tup (.inl (.inl et)) (okA g27), (Fit.tup (g27.fits hn2)).mono (by omega) (by decide), fun H8 s8 => ?_⟩
          rw [body_steps g27 g4]
          refine ⟨true, true, rfl, rfl, _, rfl, ?_⟩
          show if (!decide (true = true)) = true then _ else _
          rw [decide_eq_true rfl]
          refine iteF ?_
          have s68 : Same H6 H8 := st.trans s8
          refine ⟨.ref D, rfl, D, us, rfl, .inl ⟨.inl (.inl (s68 _ _ D6)), fun t2 nt2 => ?_⟩⟩
          have st2 := same_new (o := .tup us) nt2
          have et2 : (upd H8 t2 (.tup us)) t2 = some (.tup us) := upd_same
          generalize upd H8 t2 (.tup us) = H9 at st2 et2 ⊢
          have s69 := s68.trans st2
          have st9 : Steps n H9 us ds := st6.map fun z => z.same s69
          refine ⟨.int n, rfl, .ref t2, n, rfl, ⟨.tuple ds, .tup (.inl (.inl et2)) (okA st9), (Fit.tup (st9.fits hn2)).mono (by omega) (by decide)⟩, fun H10 s10 => ?_⟩
          refine ⟨_, rfl, iteF ?_⟩
          have s610 := s69.trans s10
          have hp10 := hp6.same s610
          have b010 : But p H H10 := fun c o nc hc => s610 _ _ (b06 _ _ nc hc)
          refine ⟨.ref p, rfl, .ref L, rfl, .int n, rfl, p, L, n, ws, es, rfl, hp10, nLp, s610 _ _ g1, g2.map fun z => z.same s610, by omega, hn1, hn2, fun H11 v hp11 b11 ⟨d, sv, fv⟩ => ?_⟩
          have b011 : But p H H11 := b010.trans b11
          refine ⟨.int n, rfl, (by decide : 4 ≤ sizeLine), fun q nq => ?_⟩
          have sq := same_new (o := .lst [.int n, .int 1, .int 2, .int 3]) nq
          have eq : (upd H11 q (.lst [.int n, .int 1, .int 2, .int 3])) q = some (.lst [.int n, .int 1, .int 2, .int 3]) := upd_same
          generalize upd H11 q (.lst [.int n, .int 1, .int 2, .int 3]) = H12 at sq eq ⊢
          refine ⟨q, rfl, ⟨_, .inl (.inl eq)⟩, fun D2 nD2 => ?_⟩
          refine lc_list (xs := [V.int n, .int 1, .int 2, .int 3]) (fun j H13 => H13 D2 = some (.lst ((List.replicate j true).map V.bl)) ∧ Same H12 H13 ∧ j ≤ 4)
            ⟨upd_same, same_new nD2, by decide⟩ (fun j H13 _ hP => .inl (.inl (hP.2.1 _ _ eq))) (fun j z H13 hz hP => ?_) (fun H13 hP => ?_)
          · obtain ⟨eD, s13, _⟩ := hP
            have hj : j < 4 := (List.getElem?_eq_some_iff.mp hz).1
            obtain ⟨m, rfl⟩ : ∃ m, z = .int m := by
              have : j = 0 ∨ j = 1 ∨ j = 2 ∨ j = 3 := by omega
              rcases this with rfl | rfl | rfl | rfl
              · exact ⟨_, (Option.some.inj hz).symm⟩
              · exact ⟨_, (Option.some.inj hz).symm⟩
              · exact ⟨_, (Option.some.inj hz).symm⟩
              · exact ⟨_, (Option.some.inj hz).symm⟩
            refine ⟨rfl, v, rfl, .int m, rfl, v, m, rfl, ⟨d, ((sv.same sq).same s13).sh (fun a z => z.2), fv⟩, fun H14 s14 => ?_⟩
            refine ⟨_, s14 _ _ eD, ?_, ?_, ?_, by omega⟩
            · rw [List.length_map, List.length_replicate]
              exact sz1 (by omega)
            · rw [upd_same, List.replicate_succ', List.map_append]
              rfl
            · intro b o hb
              rw [upd_ne (ne_of_none hb nD2)]
              exact s14 _ _ (s13 _ _ hb)
          · obtain ⟨eD, s13, _⟩ := hP
            refine ⟨D2, _, rfl, .inl (.inl eD), _, rfl, ?_⟩
            rw [all_true]
            refine iteF ?_
            have s1113 := sq.trans s13
            have hp13 := hp11.same s1113
            have b013 : But p H H13 := fun c o nc hc => s1113 _ _ (b011 _ _ nc hc)
            refine ⟨.ref p, rfl, .int n, rfl, p, n, rfl, hp13, hn1, hn2, fun H14 v2 d2 hp14 b14 sv2 fv2 => ?_⟩
            refine ⟨.int n, rfl, v2, n, rfl, ⟨d2, sv2.sh (fun a z => z.2), fv2.mono (by decide) (by decide)⟩, fun H15 s15 => ?_⟩
            refine ⟨_, rfl, iteF ?_⟩
            exact ⟨_, _, _, _, rfl, hp14.same s15, fun c o nc hc => s15 _ _ (b14 _ _ nc (b013 _ _ nc hc))⟩
    · obtain ⟨y2, y3, y4, y5, rfl, hp3, b3⟩ := hP
      refine ⟨(by decide : 0 ≤ sizeLine), fun t nt => ?_⟩
      have st := same_new (o := .tup []) nt
      refine ⟨.int n, rfl, .ref t, true, .tuple [], n, rfl, .tup (.inl (.inl upd_same)) .nil, (Fit.tup (m := 3) fitAll_nil).mono (by decide) (by decide), fun H4 s4 => ?_⟩
      refine ⟨_, true, rfl, rfl, _, rfl, ?_⟩
      refine iteT ⟨(by decide : 0 ≤ sizeLine), fun t2 nt2 => ?_⟩
      have st2 := same_new (o := .lst []) nt2
      refine ⟨.int n, rfl, .ref t2, true, .list [], n, rfl, .lst (.inl (.inl upd_same)) (fun z => nomatch z) .nil, (Fit.lst (m := 3) fitAll_nil).mono (by decide) (by decide), fun H5 s5 => ?_⟩
      refine ⟨_, false, rfl, rfl, ?_⟩
      have sm := st.trans (s4.trans (st2.trans s5))
      exact fin _ (hp3.same sm) (fun c o nc hc => sm _ _ (b3 _ _ nc hc))
end
end Lw
namespace Lw
open PySem PySem.Spec PyProof.Rows L2 Kv
theorem scLaw : FnScope ["_law_script", "_law_k"] ["_law_script"] (defScope sLaw) :=
  ⟨rfl, rfl, rfl, by decide +kernel, rfl, by decide +kernel, by decide +kernel⟩
section
variable {P : Program} {w : World} {K : PySem.W.Frag} {mg : Str → Option Value} {base : Heap}
def spLaw (K : PySem.W.Frag) : Sp := fun vs H Q _ => ∃ (a : Addr) (ns : List Int), vs = [.ref a] ∧ SqL K H a (ns.map V.int) ∧ ns.length ≤ 63 ∧ ∀ H', Q (.bl true) H'
theorem ok_law {f fP fC : Addr} {fd fdP fdC : FuncData} (F : Fun K "law" "law" sLaw f fd)
    (FP : Fun K "_law_pot" "_law_pot" sPot fP fdP) (bP : Binds K fdP ["_law_script", "_law_k"] []) (gP : mg "_law_pot" = some (.ref fP))
    (FC : Fun K "_law_cell_right" "_law_cell_right" sCell fC fdC) (bC : Binds K fdC ["_law_pot_here"] []) (gC : mg "_law_cell_right" = some (.ref fC))
    (GP : FnOk P w K mg base CX0 1 fP fdP ["_law_script", "_law_k"] (spPot K)) (GC : FnG P w K mg base CX0 7 fC fdC ["_law_pot_here"] spCell)
    (mr : mg "range" = none) (mx : mg "max" = none) (mn : mg "min" = none) (ml : mg "len" = none) :
    FnG P w K mg base CX0 8 f fd ["_law_script"] (spLaw K) := by
  refine okG F scLaw (fun vs H Q E h => ?_) (fun cdv A outer s H vs Q E hg hr h => ?_)
  · obtain ⟨a, ns, rfl, _⟩ := h
    rfl
  · obtain ⟨a, ns, rfl, hS, hlen, q⟩ := h
    refine ⟨_, pss_cons (ps_for PassesOwn.never rfl (pi_range1 rfl mr (pa_cons
          (pe_callB (call_max2 rfl) (by rfl) mx (by decide +kernel) (pa_cons pe_int (pa_cons
            (pe_callB (call_min2 rfl) (by rfl) mn (by decide +kernel) (pa_cons pe_int (pa_cons (pe_callB call_len_seq (by rfl) ml PySem.boot_len (pa_cons (pv 0) pa_nil)) pa_nil))) pa_nil))) pa_nil))
        (pg_name (i := 1) scLaw.nd rfl (.inl rfl))
        (pss_one (ps_if (pt_not (pt_val (pe_callG GC hg hr (by rfl) gC FC.kp bC .nil pass0 (pa_cons (pe_call GP (hr.mono (by decide)) (by rfl) gP FP.kp bP .nil pass0 (pa_cons (pv 0) (pa_cons (pv 1) pa_nil))) pa_nil)))) (pss_one (ps_ret pe_bl)) pss_nil)))
      (pss_one (ps_ret pe_bl)), ?_⟩
    refine ⟨.ref a, rfl, a, _, rfl, .inl hS, _, _, rfl, _, _, rfl, _, rfl, ?_, ?_, ?_⟩
    · rw [List.length_map]
      split <;> split <;> omega
    · rw [List.length_map]
      split <;> split <;> omega
    · refine for_range (fun i σ H3 => ∃ y1, σ = [some (.ref a), y1] ∧ i ≤ 100 ∧ Same H H3) ⟨none, rfl, by decide, Same.refl _⟩ (fun i σ H3 hi hP => ?_) (fun σ H3 hP => ?_)
      · obtain ⟨y1, rfl, hi2, s0⟩ := hP
        have hi3 : i < 100 := by
          rw [List.length_map] at hi
          revert hi
          split <;> split <;> omega
        refine ⟨.ref a, rfl, .int (0 + (i : Int)), rfl, a, ns, i, by rw [Int.zero_add]; rfl, s0.seq hS, by omega, fun p H4 s4 np hp => ?_⟩
        have np0 : H p = none := s0.free np
        refine ⟨p, rfl, hp, fun H5 hp5 b5 => ?_⟩
        refine ⟨_, rfl, iteF ?_⟩
        exact ⟨_, rfl, by omega, b5.same np0 (s0.trans s4)⟩
      · exact q _
end
end Lw
namespace Lw
open PySem PySem.Spec PyProof.Rows L2 Kv
theorem all_mk {l : PySem.W.OpenLaw} {w : World} {K : PySem.W.Frag} {h : Heap} {mg : Str → Option Value} {fa  f0 f1 f2 f3 f4 f5 f6 f7 f8 f9 f10 f11 f12 f13 f14 f15 f16 f17 f18 f19  : Addr}
    {u0 : Tok} {u1 : Tok} {u2 : Tok} {u3 : Tok} {u4 : Tok} (X : K.In h) (G : h.Ns mainGlobals mg) (hfa : mg "law" = some (.ref fa))
    (a0 : PySem.W.nsIn K mainGlobals "is_name" = some (some (.ref f0)))
    {oc0 kV0 dc0 pm0 cd0 ct0 : Value} {od0 an0 : Option Addr} {sl0 : Array (Option Value)}
    (l0 : K.lookup f0 = some ⟨oc0, od0, .func (PySem.W.fnOf "is_name" "is_name" (defArgs sIsName) (defBody sIsName) (defScope sIsName)
      .none kV0 dc0 pm0 an0 cd0 ct0), sl0⟩)
    (c0 : PySem.W.codeIn K cd0 "is_name" = true) (k0 : PySem.W.keepIn K (.ref f0) = true)
    (a1 : PySem.W.nsIn K mainGlobals "is_parameter_count" = some (some (.ref f1)))
    {oc1 kV1 dc1 pm1 cd1 ct1 : Value} {od1 an1 : Option Addr} {sl1 : Array (Option Value)}
    (l1 : K.lookup f1 = some ⟨oc1, od1, .func (PySem.W.fnOf "is_parameter_count" "is_parameter_count" (defArgs sIsCount) (defBody sIsCount) (defScope sIsCount)
      .none kV1 dc1 pm1 an1 cd1 ct1), sl1⟩)
    (c1 : PySem.W.codeIn K cd1 "is_parameter_count" = true) (k1 : PySem.W.keepIn K (.ref f1) = true)
    (a2 : PySem.W.nsIn K mainGlobals "is_argument" = some (some (.ref f2)))
    {oc2 kV2 dc2 pm2 cd2 ct2 : Value} {od2 an2 : Option Addr} {sl2 : Array (Option Value)}
    (l2 : K.lookup f2 = some ⟨oc2, od2, .func (PySem.W.fnOf "is_argument" "is_argument" (defArgs sIsArg) (defBody sIsArg) (defScope sIsArg)
      .none kV2 dc2 pm2 an2 cd2 ct2), sl2⟩)
    (c2 : PySem.W.codeIn K cd2 "is_argument" = true) (k2 : PySem.W.keepIn K (.ref f2) = true)
    (a3 : PySem.W.nsIn K mainGlobals "are_arguments" = some (some (.ref f3)))
    {oc3 kV3 dc3 pm3 cd3 ct3 : Value} {od3 an3 : Option Addr} {sl3 : Array (Option Value)}
    (l3 : K.lookup f3 = some ⟨oc3, od3, .func (PySem.W.fnOf "are_arguments" "are_arguments" (defArgs sAreArgs) (defBody sAreArgs) (defScope sAreArgs)
      .none kV3 dc3 pm3 an3 cd3 ct3), sl3⟩)
    (c3 : PySem.W.codeIn K cd3 "are_arguments" = true) (k3 : PySem.W.keepIn K (.ref f3) = true)
    (a4 : PySem.W.nsIn K mainGlobals "is_step" = some (some (.ref f4)))
    {oc4 kV4 dc4 pm4 cd4 ct4 : Value} {od4 an4 : Option Addr} {sl4 : Array (Option Value)}
    (l4 : K.lookup f4 = some ⟨oc4, od4, .func (PySem.W.fnOf "is_step" "is_step" (defArgs sIsStep) (defBody sIsStep) (defScope sIsStep)
      .none kV4 dc4 pm4 an4 cd4 ct4), sl4⟩)
    (c4 : PySem.W.codeIn K cd4 "is_step" = true) (k4 : PySem.W.keepIn K (.ref f4) = true)
    (a5 : PySem.W.nsIn K mainGlobals "is_body" = some (some (.ref f5)))
    {oc5 kV5 dc5 pm5 cd5 ct5 : Value} {od5 an5 : Option Addr} {sl5 : Array (Option Value)}
    (l5 : K.lookup f5 = some ⟨oc5, od5, .func (PySem.W.fnOf "is_body" "is_body" (defArgs sIsBody) (defBody sIsBody) (defScope sIsBody)
      .none kV5 dc5 pm5 an5 cd5 ct5), sl5⟩)
    (c5 : PySem.W.codeIn K cd5 "is_body" = true) (k5 : PySem.W.keepIn K (.ref f5) = true)
    (a6 : PySem.W.nsIn K mainGlobals "_law_pot" = some (some (.ref f6)))
    {oc6 kV6 dc6 pm6 cd6 ct6 : Value} {od6 an6 : Option Addr} {sl6 : Array (Option Value)}
    (l6 : K.lookup f6 = some ⟨oc6, od6, .func (PySem.W.fnOf "_law_pot" "_law_pot" (defArgs sPot) (defBody sPot) (defScope sPot)
      .none kV6 dc6 pm6 an6 cd6 ct6), sl6⟩)
    (c6 : PySem.W.codeIn K cd6 "_law_pot" = true) (k6 : PySem.W.keepIn K (.ref f6) = true)
    (a7 : PySem.W.nsIn K mainGlobals "_law_draw" = some (some (.ref f7)))
    {oc7 kV7 dc7 pm7 cd7 ct7 : Value} {od7 an7 : Option Addr} {sl7 : Array (Option Value)}
    (l7 : K.lookup f7 = some ⟨oc7, od7, .func (PySem.W.fnOf "_law_draw" "_law_draw" (defArgs sDraw) (defBody sDraw) (defScope sDraw)
      .none kV7 dc7 pm7 an7 cd7 ct7), sl7⟩)
    (c7 : PySem.W.codeIn K cd7 "_law_draw" = true) (k7 : PySem.W.keepIn K (.ref f7) = true)
    (a8 : PySem.W.nsIn K mainGlobals "_law_name" = some (some (.ref f8)))
    {oc8 kV8 dc8 pm8 cd8 ct8 : Value} {od8 an8 : Option Addr} {sl8 : Array (Option Value)}
    (l8 : K.lookup f8 = some ⟨oc8, od8, .func (PySem.W.fnOf "_law_name" "_law_name" (defArgs sName) (defBody sName) (defScope sName)
      .none kV8 dc8 pm8 an8 cd8 ct8), sl8⟩)
    (c8 : PySem.W.codeIn K cd8 "_law_name" = true) (k8 : PySem.W.keepIn K (.ref f8) = true)
    (a9 : PySem.W.nsIn K mainGlobals "_law_step" = some (some (.ref f9)))
    {oc9 kV9 dc9 pm9 cd9 ct9 : Value} {od9 an9 : Option Addr} {sl9 : Array (Option Value)}
    (l9 : K.lookup f9 = some ⟨oc9, od9, .func (PySem.W.fnOf "_law_step" "_law_step" (defArgs sStep) (defBody sStep) (defScope sStep)
      .none kV9 dc9 pm9 an9 cd9 ct9), sl9⟩)
    (c9 : PySem.W.codeIn K cd9 "_law_step" = true) (k9 : PySem.W.keepIn K (.ref f9) = true)
    (a10 : PySem.W.nsIn K mainGlobals "_law_odd_argument" = some (some (.ref f10)))
    {oc10 kV10 dc10 pm10 cd10 ct10 : Value} {od10 an10 : Option Addr} {sl10 : Array (Option Value)}
    (l10 : K.lookup f10 = some ⟨oc10, od10, .func (PySem.W.fnOf "_law_odd_argument" "_law_odd_argument" (defArgs sOddA) (defBody sOddA) (defScope sOddA)
      .none kV10 dc10 pm10 an10 cd10 ct10), sl10⟩)
    (c10 : PySem.W.codeIn K cd10 "_law_odd_argument" = true) (k10 : PySem.W.keepIn K (.ref f10) = true)
    (a11 : PySem.W.nsIn K mainGlobals "_law_odd_step" = some (some (.ref f11)))
    {oc11 kV11 dc11 pm11 cd11 ct11 : Value} {od11 an11 : Option Addr} {sl11 : Array (Option Value)}
    (l11 : K.lookup f11 = some ⟨oc11, od11, .func (PySem.W.fnOf "_law_odd_step" "_law_odd_step" (defArgs sOddS) (defBody sOddS) (defScope sOddS)
      .none kV11 dc11 pm11 an11 cd11 ct11), sl11⟩)
    (c11 : PySem.W.codeIn K cd11 "_law_odd_step" = true) (k11 : PySem.W.keepIn K (.ref f11) = true)
    (a12 : PySem.W.nsIn K mainGlobals "_law_changed" = some (some (.ref f12)))
    {oc12 kV12 dc12 pm12 cd12 ct12 : Value} {od12 an12 : Option Addr} {sl12 : Array (Option Value)}
    (l12 : K.lookup f12 = some ⟨oc12, od12, .func (PySem.W.fnOf "_law_changed" "_law_changed" (defArgs sChg) (defBody sChg) (defScope sChg)
      .none kV12 dc12 pm12 an12 cd12 ct12), sl12⟩)
    (c12 : PySem.W.codeIn K cd12 "_law_changed" = true) (k12 : PySem.W.keepIn K (.ref f12) = true)
    (a13 : PySem.W.nsIn K mainGlobals "_law_is_word" = some (some (.ref f13)))
    {oc13 kV13 dc13 pm13 cd13 ct13 : Value} {od13 an13 : Option Addr} {sl13 : Array (Option Value)}
    (l13 : K.lookup f13 = some ⟨oc13, od13, .func (PySem.W.fnOf "_law_is_word" "_law_is_word" (defArgs sLWord) (defBody sLWord) (defScope sLWord)
      .none kV13 dc13 pm13 an13 cd13 ct13), sl13⟩)
    (c13 : PySem.W.codeIn K cd13 "_law_is_word" = true) (k13 : PySem.W.keepIn K (.ref f13) = true)
    (a14 : PySem.W.nsIn K mainGlobals "_law_is_argument" = some (some (.ref f14)))
    {oc14 kV14 dc14 pm14 cd14 ct14 : Value} {od14 an14 : Option Addr} {sl14 : Array (Option Value)}
    (l14 : K.lookup f14 = some ⟨oc14, od14, .func (PySem.W.fnOf "_law_is_argument" "_law_is_argument" (defArgs sLArg) (defBody sLArg) (defScope sLArg)
      .none kV14 dc14 pm14 an14 cd14 ct14), sl14⟩)
    (c14 : PySem.W.codeIn K cd14 "_law_is_argument" = true) (k14 : PySem.W.keepIn K (.ref f14) = true)
    (a15 : PySem.W.nsIn K mainGlobals "_law_is_step" = some (some (.ref f15)))
    {oc15 kV15 dc15 pm15 cd15 ct15 : Value} {od15 an15 : Option Addr} {sl15 : Array (Option Value)}
    (l15 : K.lookup f15 = some ⟨oc15, od15, .func (PySem.W.fnOf "_law_is_step" "_law_is_step" (defArgs sLStep) (defBody sLStep) (defScope sLStep)
      .none kV15 dc15 pm15 an15 cd15 ct15), sl15⟩)
    (c15 : PySem.W.codeIn K cd15 "_law_is_step" = true) (k15 : PySem.W.keepIn K (.ref f15) = true)
    (a16 : PySem.W.nsIn K mainGlobals "_law_is_body" = some (some (.ref f16)))
    {oc16 kV16 dc16 pm16 cd16 ct16 : Value} {od16 an16 : Option Addr} {sl16 : Array (Option Value)}
    (l16 : K.lookup f16 = some ⟨oc16, od16, .func (PySem.W.fnOf "_law_is_body" "_law_is_body" (defArgs sLBody) (defBody sLBody) (defScope sLBody)
      .none kV16 dc16 pm16 an16 cd16 ct16), sl16⟩)
    (c16 : PySem.W.codeIn K cd16 "_law_is_body" = true) (k16 : PySem.W.keepIn K (.ref f16) = true)
    (a17 : PySem.W.nsIn K mainGlobals "_law_right" = some (some (.ref f17)))
    {oc17 kV17 dc17 pm17 cd17 ct17 : Value} {od17 an17 : Option Addr} {sl17 : Array (Option Value)}
    (l17 : K.lookup f17 = some ⟨oc17, od17, .func (PySem.W.fnOf "_law_right" "_law_right" (defArgs sRight) (defBody sRight) (defScope sRight)
      .none kV17 dc17 pm17 an17 cd17 ct17), sl17⟩)
    (c17 : PySem.W.codeIn K cd17 "_law_right" = true) (k17 : PySem.W.keepIn K (.ref f17) = true)
    (a18 : PySem.W.nsIn K mainGlobals "_law_cell_right" = some (some (.ref f18)))
    {oc18 kV18 dc18 pm18 cd18 ct18 : Value} {od18 an18 : Option Addr} {sl18 : Array (Option Value)}
    (l18 : K.lookup f18 = some ⟨oc18, od18, .func (PySem.W.fnOf "_law_cell_right" "_law_cell_right" (defArgs sCell) (defBody sCell) (defScope sCell)
      .none kV18 dc18 pm18 an18 cd18 ct18), sl18⟩)
    (c18 : PySem.W.codeIn K cd18 "_law_cell_right" = true) (k18 : PySem.W.keepIn K (.ref f18) = true)
    (a19 : PySem.W.nsIn K mainGlobals "law" = some (some (.ref f19)))
    {oc19 kV19 dc19 pm19 cd19 ct19 : Value} {od19 an19 : Option Addr} {sl19 : Array (Option Value)}
    (l19 : K.lookup f19 = some ⟨oc19, od19, .func (PySem.W.fnOf "law" "law" (defArgs sLaw) (defBody sLaw) (defScope sLaw)
      .none kV19 dc19 pm19 an19 cd19 ct19), sl19⟩)
    (c19 : PySem.W.codeIn K cd19 "law" = true) (k19 : PySem.W.keepIn K (.ref f19) = true)
    (e0 : PySem.W.nsIn K mainGlobals "LETTERS" = some (some (.str "abcdefghijklmnopqrstuvwxyz" u0)))
    (e1 : PySem.W.nsIn K mainGlobals "LONGEST_NAME" = some (some (.int 8 u1)))
    (e2 : PySem.W.nsIn K mainGlobals "MAX_PARAMETERS" = some (some (.int 3 u2)))
    (e3 : PySem.W.nsIn K mainGlobals "SAY_WORD" = some (some (.str "say" u3)))
    (e4 : PySem.W.nsIn K mainGlobals "CALL_WORD" = some (some (.str "call" u4)))
    (z0 : PySem.W.nsIn K mainGlobals "len" = some none)
    (z1 : PySem.W.nsIn K mainGlobals "max" = some none)
    (z2 : PySem.W.nsIn K mainGlobals "min" = some none)
    (z3 : PySem.W.nsIn K mainGlobals "abs" = some none)
    (z4 : PySem.W.nsIn K mainGlobals "divmod" = some none)
    (z5 : PySem.W.nsIn K mainGlobals "range" = some none)
    (z6 : PySem.W.nsIn K mainGlobals "str" = some none)
    (z7 : PySem.W.nsIn K mainGlobals "int" = some none)
    (z8 : PySem.W.nsIn K mainGlobals "bool" = some none)
    (z9 : PySem.W.nsIn K mainGlobals "isinstance" = some none)
    (z10 : PySem.W.nsIn K mainGlobals "all" = some none)
    (z11 : PySem.W.nsIn K mainGlobals "repr" = some none)
    (z12 : PySem.W.nsIn K mainGlobals "tuple" = some none)
    (z13 : PySem.W.nsIn K mainGlobals "list" = some none)
    (z14 : PySem.W.nsIn K mainGlobals "enumerate" = some none)
    {TN : Addr} {odN : Option Addr} {nN : Nat} {slN : Array (Option Value)} {uN : Tok} (eN : PySem.W.nsIn K mainGlobals "NEXT_STEP" = some (some (.ref TN)))
     (lN : K.lookup TN = some ⟨.type "tuple", odN, .seq #[.str "next" uN] nN, slN⟩)
    : ∃ fd : FuncData, (∀ (s : Shared) (v : Value), BindsTo s fd ⟨[v], []⟩ [("_law_script", v)]) ∧
      ∀ base : Heap, K.In base → base.Ns mainGlobals mg → sysModules < base.objs.size →
        FnG l.prog w K mg base CX0 8 fa fd ["_law_script"] (spLaw K) := by
  have e := hfa.symm.trans (PySem.W.mg_of X G a19)
  cases e
  have F_is_name := fun_mk (st := sIsName) l0 c0 k0
  have b_is_name := F_is_name.binds (ps := ["value"]) fun _ _ _ _ _ _ us hl =>
    match us, hl with | [_], _ => rfl
  have g_is_name := PySem.W.mg_of X G a0
  have F_is_parameter_count := fun_mk (st := sIsCount) l1 c1 k1
  have b_is_parameter_count := F_is_parameter_count.binds (ps := ["value"]) fun _ _ _ _ _ _ us hl =>
    match us, hl with | [_], _ => rfl
  have g_is_parameter_count := PySem.W.mg_of X G a1
  have F_is_argument := fun_mk (st := sIsArg) l2 c2 k2
  have b_is_argument := F_is_argument.binds (ps := ["value", "count"]) fun _ _ _ _ _ _ us hl =>
    match us, hl with | [_, _], _ => rfl
  have g_is_argument := PySem.W.mg_of X G a2
  have F_are_arguments := fun_mk (st := sAreArgs) l3 c3 k3
  have b_are_arguments := F_are_arguments.binds (ps := ["value", "count"]) fun _ _ _ _ _ _ us hl =>
    match us, hl with | [_, _], _ => rfl
  have g_are_arguments := PySem.W.mg_of X G a3
  have F_is_step := fun_mk (st := sIsStep) l4 c4 k4
  have b_is_step := F_is_step.binds (ps := ["value", "count"]) fun _ _ _ _ _ _ us hl =>
    match us, hl with | [_, _], _ => rfl
  have g_is_step := PySem.W.mg_of X G a4
  have F_is_body := fun_mk (st := sIsBody) l5 c5 k5
  have b_is_body := F_is_body.binds (ps := ["value", "count"]) fun _ _ _ _ _ _ us hl =>
    match us, hl with | [_, _], _ => rfl
  have g_is_body := PySem.W.mg_of X G a5
  have F__law_pot := fun_mk (st := sPot) l6 c6 k6
  have b__law_pot := F__law_pot.binds (ps := ["_law_script", "_law_k"]) fun _ _ _ _ _ _ us hl =>
    match us, hl with | [_, _], _ => rfl
  have g__law_pot := PySem.W.mg_of X G a6
  have F__law_draw := fun_mk (st := sDraw) l7 c7 k7
  have b__law_draw := F__law_draw.binds (ps := ["_law_pot_here", "_law_many"]) fun _ _ _ _ _ _ us hl =>
    match us, hl with | [_, _], _ => rfl
  have g__law_draw := PySem.W.mg_of X G a7
  have F__law_name := fun_mk (st := sName) l8 c8 k8
  have b__law_name := F__law_name.binds (ps := ["_law_pot_here"]) fun _ _ _ _ _ _ us hl =>
    match us, hl with | [_], _ => rfl
  have g__law_name := PySem.W.mg_of X G a8
  have F__law_step := fun_mk (st := sStep) l9 c9 k9
  have b__law_step := F__law_step.binds (ps := ["_law_pot_here", "_law_amount"]) fun _ _ _ _ _ _ us hl =>
    match us, hl with | [_, _], _ => rfl
  have g__law_step := PySem.W.mg_of X G a9
  have F__law_odd_argument := fun_mk (st := sOddA) l10 c10 k10
  have b__law_odd_argument := F__law_odd_argument.binds (ps := ["_law_pot_here", "_law_amount"]) fun _ _ _ _ _ _ us hl =>
    match us, hl with | [_, _], _ => rfl
  have g__law_odd_argument := PySem.W.mg_of X G a10
  have F__law_odd_step := fun_mk (st := sOddS) l11 c11 k11
  have b__law_odd_step := F__law_odd_step.binds (ps := ["_law_pot_here", "_law_amount"]) fun _ _ _ _ _ _ us hl =>
    match us, hl with | [_, _], _ => rfl
  have g__law_odd_step := PySem.W.mg_of X G a11
  have F__law_changed := fun_mk (st := sChg) l12 c12 k12
  have b__law_changed := F__law_changed.binds (ps := ["_law_pot_here", "_law_steps", "_law_amount"]) fun _ _ _ _ _ _ us hl =>
    match us, hl with | [_, _, _], _ => rfl
  have g__law_changed := PySem.W.mg_of X G a12
  have F__law_is_word := fun_mk (st := sLWord) l13 c13 k13
  have b__law_is_word := F__law_is_word.binds (ps := ["_law_thing"]) fun _ _ _ _ _ _ us hl =>
    match us, hl with | [_], _ => rfl
  have g__law_is_word := PySem.W.mg_of X G a13
  have F__law_is_argument := fun_mk (st := sLArg) l14 c14 k14
  have b__law_is_argument := F__law_is_argument.binds (ps := ["_law_thing", "_law_amount"]) fun _ _ _ _ _ _ us hl =>
    match us, hl with | [_, _], _ => rfl
  have g__law_is_argument := PySem.W.mg_of X G a14
  have F__law_is_step := fun_mk (st := sLStep) l15 c15 k15
  have b__law_is_step := F__law_is_step.binds (ps := ["_law_thing", "_law_amount"]) fun _ _ _ _ _ _ us hl =>
    match us, hl with | [_, _], _ => rfl
  have g__law_is_step := PySem.W.mg_of X G a15
  have F__law_is_body := fun_mk (st := sLBody) l16 c16 k16
  have b__law_is_body := F__law_is_body.binds (ps := ["_law_thing", "_law_amount"]) fun _ _ _ _ _ _ us hl =>
    match us, hl with | [_, _], _ => rfl
  have g__law_is_body := PySem.W.mg_of X G a16
  have F__law_right := fun_mk (st := sRight) l17 c17 k17
  have b__law_right := F__law_right.binds (ps := ["_law_thing", "_law_amount"]) fun _ _ _ _ _ _ us hl =>
    match us, hl with | [_, _], _ => rfl
  have g__law_right := PySem.W.mg_of X G a17
  have F__law_cell_right := fun_mk (st := sCell) l18 c18 k18
  have b__law_cell_right := F__law_cell_right.binds (ps := ["_law_pot_here"]) fun _ _ _ _ _ _ us hl =>
    match us, hl with | [_], _ => rfl
  have g__law_cell_right := PySem.W.mg_of X G a18
  have F_law := fun_mk (st := sLaw) l19 c19 k19
  have b_law := F_law.binds (ps := ["_law_script"]) fun _ _ _ _ _ _ us hl =>
    match us, hl with | [_], _ => rfl
  have g_law := PySem.W.mg_of X G a19
  have q_LETTERS := PySem.W.mg_of X G e0
  have q_LONGEST_NAME := PySem.W.mg_of X G e1
  have q_MAX_PARAMETERS := PySem.W.mg_of X G e2
  have q_SAY_WORD := PySem.W.mg_of X G e3
  have q_CALL_WORD := PySem.W.mg_of X G e4
  have n_len := PySem.W.mg_none_of X G z0
  have n_max := PySem.W.mg_none_of X G z1
  have n_min := PySem.W.mg_none_of X G z2
  have n_abs := PySem.W.mg_none_of X G z3
  have n_divmod := PySem.W.mg_none_of X G z4
  have n_range := PySem.W.mg_none_of X G z5
  have n_str := PySem.W.mg_none_of X G z6
  have n_int := PySem.W.mg_none_of X G z7
  have n_bool := PySem.W.mg_none_of X G z8
  have n_isinstance := PySem.W.mg_none_of X G z9
  have n_all := PySem.W.mg_none_of X G z10
  have n_repr := PySem.W.mg_none_of X G z11
  have n_tuple := PySem.W.mg_none_of X G z12
  have n_list := PySem.W.mg_none_of X G z13
  have n_enumerate := PySem.W.mg_none_of X G z14
  have q_NEXT := PySem.W.mg_of X G eN
  have hxN : SqT K (fun _ => none) TN [.str "next"] := .inr ⟨_, #[.str "next" uN], _, lN, rfl, rfl, (show 1 ≤ sizeLine from by decide), .cons ⟨_, rfl⟩ .nil⟩
  refine ⟨PySem.W.fnOf "law" "law" (defArgs sLaw) (defBody sLaw) (defScope sLaw)
      .none kV19 dc19 pm19 an19 cd19 ct19, fun s v => ?_, fun base _ _ low => ?_⟩
  · exact .of_eq rfl
  · have GD := ok_draw (P := l.prog) (w := w) (base := base) (k := 0) F__law_draw n_divmod
    have GNm := ok_name (P := l.prog) (w := w) (base := base) (k := 0) F__law_name F__law_draw b__law_draw g__law_draw n_divmod n_range
    have GN := ok_isname (P := l.prog) (w := w) (base := base) (k := 0) F_is_name n_isinstance n_str n_len n_all q_LETTERS q_LONGEST_NAME
    have GC := ok_count (P := l.prog) (w := w) (base := base) (k := 0) F_is_parameter_count n_isinstance n_int n_bool q_MAX_PARAMETERS
    have GA := ok_isarg (P := l.prog) (w := w) (base := base) (k := 0) F_is_argument F_is_name b_is_name g_is_name GN n_isinstance n_int n_bool
    have GAs := ok_areargs (P := l.prog) (w := w) (base := base) (k := 0) F_are_arguments F_is_parameter_count b_is_parameter_count g_is_parameter_count F_is_argument b_is_argument g_is_argument GC GA n_isinstance n_tuple n_len n_all
    have GSt := ok_isstep (P := l.prog) (w := w) (base := base) (k := 0) F_is_step F_is_name b_is_name g_is_name F_are_arguments b_are_arguments g_are_arguments GN GAs n_isinstance n_tuple n_len q_SAY_WORD q_CALL_WORD q_NEXT hxN
    have GB := ok_isbody (P := l.prog) (w := w) (base := base) (k := 0) F_is_body F_is_step b_is_step g_is_step GSt n_isinstance n_tuple n_len n_all q_NEXT hxN
    have GW := ok_lword (P := l.prog) (w := w) (base := base) (k := 0) F__law_is_word n_isinstance n_str n_len n_all
    have GLA := ok_larg (P := l.prog) (w := w) (base := base) (k := 0) F__law_is_argument F__law_is_word b__law_is_word g__law_is_word GW n_isinstance n_int n_bool
    have GLS := ok_lstep (P := l.prog) (w := w) (base := base) (k := 0) F__law_is_step F__law_is_word b__law_is_word g__law_is_word F__law_is_argument b__law_is_argument g__law_is_argument GW GLA n_isinstance n_tuple n_str n_len n_all
    have GLB := ok_lbody (P := l.prog) (w := w) (base := base) (k := 0) F__law_is_body F__law_is_step b__law_is_step g__law_is_step GLS n_isinstance n_tuple n_len n_all
    have GR := ok_right (P := l.prog) (w := w) (base := base) (k := 0) F__law_right F__law_is_body b__law_is_body g__law_is_body F_is_body b_is_body g_is_body GLB GB n_repr
    have GOA := ok_odda (P := l.prog) (w := w) (base := base) (k := 0) F__law_odd_argument low F__law_draw b__law_draw g__law_draw GD n_len
    have GOS := ok_odds (P := l.prog) (w := w) (base := base) (k := 0) F__law_odd_step low F__law_draw b__law_draw g__law_draw F__law_odd_argument b__law_odd_argument g__law_odd_argument GD GOA n_len
    have GSp := ok_step (P := l.prog) (w := w) (base := base) (k := 0) F__law_step F__law_draw b__law_draw g__law_draw F__law_name b__law_name g__law_name GD GNm n_range n_tuple
    have GCh := ok_chg (P := l.prog) (w := w) (base := base) (k := 0) F__law_changed low F__law_draw b__law_draw g__law_draw F__law_odd_step b__law_odd_step g__law_odd_step GD GOS n_list n_tuple n_len n_min
    have GCe := ok_cell (P := l.prog) (w := w) (base := base) (k := 0) F__law_cell_right low F__law_draw b__law_draw g__law_draw F__law_step b__law_step g__law_step F_is_body b_is_body g_is_body F__law_right b__law_right g__law_right F__law_changed b__law_changed g__law_changed F__law_odd_step b__law_odd_step g__law_odd_step GD GSp GB GR GCh GOS n_range n_tuple n_all n_enumerate
    have GP := ok_pot (P := l.prog) (w := w) (base := base) (k := 0) F__law_pot n_len n_max n_abs
    exact ok_law F_law F__law_pot b__law_pot g__law_pot F__law_cell_right b__law_cell_right g__law_cell_right GP GCe n_range n_max n_min n_len
end Lw
open PySem PySem.W PyProof.Rows
set_option maxHeartbeats 0 in
theorem PySem.Challenge.cw_fewestmethods_k31_bodies_judged_holds : PySem.Challenge.rw_fewestmethods_k31_bodies_judged.Holds := by
  w_on; o_law; k_head; (case hw => w_witness2)
  k_fill
  refine Kv.walk_ofG (l := PySem.Challenge.rw_fewestmethods_k31_bodies_judged) (n := 63) (k := 8) (x := "_law_script") (sp := fun w => Lw.spLaw _)
    rfl (by decide) rfl ⟨rfl, by decide, by decide⟩ (fun w h Y => PySem.W.kIn_of Y) ?F
    (fun _ _ a ns hl _ _ hS => ⟨a, ns, rfl, hS, hl, fun _ => rfl⟩)
  case F =>
    intro w mg fa h KX G hmg
    refine' Lw.all_mk KX G hmg
      ?a0 ?l0 ?c0 ?k0 ?a1 ?l1 ?c1 ?k1 ?a2 ?l2 ?c2 ?k2
      ?a3 ?l3 ?c3 ?k3 ?a4 ?l4 ?c4 ?k4 ?a5 ?l5 ?c5 ?k5
      ?a6 ?l6 ?c6 ?k6 ?a7 ?l7 ?c7 ?k7 ?a8 ?l8 ?c8 ?k8
      ?a9 ?l9 ?c9 ?k9 ?a10 ?l10 ?c10 ?k10 ?a11 ?l11 ?c11 ?k11
      ?a12 ?l12 ?c12 ?k12 ?a13 ?l13 ?c13 ?k13 ?a14 ?l14 ?c14 ?k14
      ?a15 ?l15 ?c15 ?k15 ?a16 ?l16 ?c16 ?k16 ?a17 ?l17 ?c17 ?k17
      ?a18 ?l18 ?c18 ?k18 ?a19 ?l19 ?c19 ?k19 ?e0 ?e1 ?e2 ?e3
      ?e4 ?z0 ?z1 ?z2 ?z3 ?z4 ?z5 ?z6 ?z7 ?z8 ?z9 ?z10
      ?z11 ?z12 ?z13 ?z14 ?eN ?lN
    (case a0 => k_is); (case l0 => k_is); (case c0 => k_is); (case k0 => k_is)
    (case a1 => k_is); (case l1 => k_is); (case c1 => k_is); (case k1 => k_is)
    (case a2 => k_is); (case l2 => k_is); (case c2 => k_is); (case k2 => k_is)
    (case a3 => k_is); (case l3 => k_is); (case c3 => k_is); (case k3 => k_is)
    (case a4 => k_is); (case l4 => k_is); (case c4 => k_is); (case k4 => k_is)
    (case a5 => k_is); (case l5 => k_is); (case c5 => k_is); (case k5 => k_is)
    (case a6 => k_is); (case l6 => k_is); (case c6 => k_is); (case k6 => k_is)
    (case a7 => k_is); (case l7 => k_is); (case c7 => k_is); (case k7 => k_is)
    (case a8 => k_is); (case l8 => k_is); (case c8 => k_is); (case k8 => k_is)
    (case a9 => k_is); (case l9 => k_is); (case c9 => k_is); (case k9 => k_is)
    (case a10 => k_is); (case l10 => k_is); (case c10 => k_is); (case k10 => k_is)
    (case a11 => k_is); (case l11 => k_is); (case c11 => k_is); (case k11 => k_is)
    (case a12 => k_is); (case l12 => k_is); (case c12 => k_is); (case k12 => k_is)
    (case a13 => k_is); (case l13 => k_is); (case c13 => k_is); (case k13 => k_is)
    (case a14 => k_is); (case l14 => k_is); (case c14 => k_is); (case k14 => k_is)
    (case a15 => k_is); (case l15 => k_is); (case c15 => k_is); (case k15 => k_is)
    (case a16 => k_is); (case l16 => k_is); (case c16 => k_is); (case k16 => k_is)
    (case a17 => k_is); (case l17 => k_is); (case c17 => k_is); (case k17 => k_is)
    (case a18 => k_is); (case l18 => k_is); (case c18 => k_is); (case k18 => k_is)
    (case a19 => k_is); (case l19 => k_is); (case c19 => k_is); (case k19 => k_is)
    (case e0 => k_is); (case e1 => k_is); (case e2 => k_is); (case e3 => k_is)
    (case e4 => k_is); (case z0 => k_is); (case z1 => k_is); (case z2 => k_is)
    (case z3 => k_is); (case z4 => k_is); (case z5 => k_is); (case z6 => k_is)
    (case z7 => k_is); (case z8 => k_is); (case z9 => k_is); (case z10 => k_is)
    (case z11 => k_is); (case z12 => k_is); (case z13 => k_is); (case z14 => k_is)
    (case eN => k_is); (case lN => k_is)
