import PyProof.Rows.All
import Wide.All
import OpenK.AllK
import Wide.FinOn
import HandS.ForMost
import HandS.IsInst
import HandS.WideBits
import PyProof.ReprRoads
import HandS.EndBits
import HandS.Walk
import PyProof.ReprLen
import HandS.Strs
import KE.GoesMore
import HandS.ClsMeth
import HandS.Defaults
import PySem.Challenge.RW_fewestmethods_k21_points_judged
set_option Elab.async false
set_option linter.all false
set_option maxRecDepth 100000
set_option maxHeartbeats 4000000
/-! Defs that show values with repr: the promise of a def that is called while no repr is under way. -/
namespace Kv
open PySem PySem.Spec PyProof.Rows L2
/-- as FnOk, for calls with no repr under way -/
structure FnG (P : Program) (w : World) (K : PySem.W.Frag) (mg : Str → Option Value)
    (base : Heap) (CX : CXT) (k : Nat) (f : Addr) (fd : FuncData) (ps : List Str) (sp : Sp) : Prop where
  many : ∀ vs H Q E, sp vs H Q E → vs.length = ps.length
  goes : ∀ (A : Around) (fr : List Env) (s : Shared) (H : Hp) (ar : Args)
    (us : List Value) (vs : List V) (Q : VK) (E : XK), A.guards = some [] → Room k A →
    Env0 P w K mg base A fr s H → BindsTo s fd ar (ps.zip us) → Vals vs us → sp vs H Q E →
    codeAny (model P w) A (.call (.ref f) ar) (CR CX fr P w H s Q E) s
theorem FnG.of {P : Program} {w : World} {K : PySem.W.Frag} {mg : Str → Option Value}
    {base : Heap} {CX : CXT} {k : Nat} {f : Addr} {fd : FuncData} {ps : List Str} {sp : Sp}
    (F : FnOk P w K mg base CX k f fd ps sp) : FnG P w K mg base CX k f fd ps sp :=
  ⟨F.len, fun A fr s H ar us vs Q E _ => F.run A fr s H ar us vs Q E⟩
section
variable {P : Program} {w : World} {K : PySem.W.Frag} {mg : Str → Option Value} {base : Heap}
/-- a def's promise by its body, where no repr is under way at the call -/
theorem okG {x qual : Str} {st : Stmt} {f : Addr} {fd : FuncData} {N ps : List Str} {k : Nat} {sp : Sp}
    (F : Fun K x qual st f fd) (S : FnScope N ps (defScope st))
    (many : ∀ vs H Q E, sp vs H Q E → vs.length = ps.length)
    (hb : ∀ (cdv : Value) (A : Around) (fr : List Env) (s : Shared) (H : Hp) (vs : List V) (Q : VK) (E : XK),
      A.guards = some [] →
      Room k (A.deeper (envOfC qual (defScope st) s.heap.objs.size f cdv)) → sp vs H Q E →
      ∃ t, PSs (cxOf CX0 P w K mg base N qual (defScope st) f cdv A fr s H E).nox (defBody st) t ∧
        t { nx := fun _ H' => Q .non H', rt := Q } (start N vs) H) :
    FnG P w K mg base CX0 (k + 1) f fd ps sp := by
  obtain ⟨oc, od, kV, doc, pm, an, cdv, ct, osl, rfl, lk, hcd⟩ := F.ex
  refine ⟨many, ?_⟩
  intro A fr s H ar us vs Q E hg hr e0 hbd rv hsp
  have kin : K.In s.heap :=
    e0.mod.kin.keeps fun b o e => (e0.bs b o e).1
  have nol : s.heap.NoLimit :=
    e0.mod.nolimit.keeps fun b o e => (e0.bs b o e).1
  refine codeAny_call_function hr.depth (kin _ _ lk) rfl S.co S.gen rfl
    (PySem.W.codeRec_of kin hcd) (hbd _ _ _ _ ?_)
  refine wpAny_newFunctionEnv_cells S.kind (fun y hy => ?_) fun env he s1 ic => ?_
  · obtain ⟨n, v⟩ := y
    rcases S.par n (List.of_mem_zip hy).1 with q | q
    · exact Or.inl q
    · exact Or.inr ⟨q, PySem.W.cellsFrom_some _ _ _ (Or.inl q)⟩
  · subst he
    refine ⟨nol.keeps ic.toInCall.keep, codeAny_func ?_⟩
    obtain ⟨t, ht, hq⟩ := hb cdv A fr s H vs Q E hg (hr.deeper _) hsp
    have I : Inv (cxOf CX0 P w K mg base N qual (defScope st) f cdv A fr s H E) [] (start N vs) H s1 :=
      inv_start S hr.hd e0 (many _ _ _ _ hsp) rv ic
    refine wpAny_mono (ht.nox.run [] s1 (start N vs) H _ I hq) (fun fl s2 hs => ?_) (fun e s2 hs => hs)
    cases fl with
    | brk => exact hs.elim fun _ h => h.elim fun _ h => h.2.elim
    | cont => exact hs.elim fun _ h => h.elim fun _ h => h.2.elim
    | ret u =>
      obtain ⟨v, σ2, H2, J, r2, q2⟩ := hs
      exact ⟨v, H2, J.os, J.bare, J.base, J.hok, r2, q2⟩
    | next =>
      obtain ⟨σ2, H2, J, q2⟩ := hs
      exact ⟨V.non, H2, J.os, J.bare, J.base, J.hok, rfl, q2⟩
end
section
variable {X : Cx} {CX : CXT} {k : Nat} {f : Addr} {fd : FuncData} {ps : List Str} {sp : Sp}
  {dvs : List V} {ds : List Value} {E : XK} {x : Str} {p pos : Pos} {e : Expr} {es : List Expr} {t : TA}
theorem runG {pins : List (Addr × Obj)} {σ : L2.St} {H : Hp} {s : Shared} {Q : VK} {us : List Value} {vs : List V}
    (F : FnG X.prog X.w X.K X.mg X.base CX k f fd ps sp) (hgd : X.A.guards = some []) (hr : Room k X.A)
    (hb : Binds X.K fd ps ds) (hd : Vals dvs ds) (hx : Passes CX X E)
    (I : Inv X pins σ H s) (r : Vals vs us) (h : sp (vs ++ dvs) H Q E) :
    wpAny (model X.prog X.w) X.A (call (.ref f) us) (EP X pins σ Q) X.xe s := by
  have rr : Vals (vs ++ dvs) (us ++ ds) := r.append hd
  have hl : (us ++ ds).length = ps.length := by
    rw [← rr.length]
    exact F.many _ _ _ _ h
  refine wpAny_call (codeAny_mono (F.goes X.A X.stack s H ⟨us, []⟩ (us ++ ds) (vs ++ dvs) Q E
    hgd hr I.env0 (hb s us I.kIn hl) rr h) fun z s2 hq => ?_)
  cases z with
  | error e => exact hx pins σ H s e s2 I hq
  | ok fl =>
    cases fl with
    | ret u => exact I.after hq
    | next => exact hq.elim
    | brk => exact hq.elim
    | cont => exact hq.elim
/-- f(e, ..) of such a def -/
theorem pe_callG (F : FnG X.prog X.w X.K X.mg X.base CX k f fd ps sp) (hgd : X.A.guards = some [])
    (hr : Room k X.A) (hg : Gl X x) (hm : X.mg x = some (.ref f)) (hk : PySem.W.keepIn X.K (.ref f) = true)
    (hb : Binds X.K fd ps ds) (hd : Vals dvs ds) (hx : Passes CX X E) (ha : PA X (e :: es) t)
    (hdb : (x == ("__debug__" : Str)) = false := by decide)
    (he : starEach (e :: es) X.env = (false, eval e X.env) :: starEach es X.env := by rfl)
    (hpl : (backTo pos (starEach es X.env)).any (·.1) = false := by rfl) :
    PE X (.Call (.Name x p) (e :: es) [] pos) (tCall sp dvs E t) := by
  constructor
  intro pins s σ H Q I h
  refine wpAny_Call_Name_kw (ld_glob I hg hm ?_ hdb)
  refine PySem.W.callWith_K (h₀ := X.base) I.ok.mod.kin hk (thn (ha.run pos pins s σ H _ I h)
    fun us s1 ⟨vs, H1, I1, r, q⟩ => ⟨I1.kIn, ?_⟩) he hpl
  exact runG F hgd hr hb hd hx I1 r q
end
/-! ### what repr shows -/
mutual
/-- the value v is the datum d. nd: no dict is in it -/
inductive Sh (K : PySem.W.Frag) (nd : Bool) (H : Hp) : V → PyData → Prop
  | non : Sh K nd H .non .none
  | bl (b : Bool) : Sh K nd H (.bl b) (.bool b)
  | int (i : Int) : Sh K nd H (.int i) (.int i)
  | str (x : Str) : Sh K nd H (.str x) (.str x)
  | lst {a : Addr} {xs : List V} {ds : List PyData} : SqL K H a xs → (nd = false → a ≠ sysModules) →
      ShAll K nd H xs ds → Sh K nd H (.ref a) (.list ds)
  | tup {a : Addr} {xs : List V} {ds : List PyData} : SqT K H a xs →
      ShAll K nd H xs ds → Sh K nd H (.ref a) (.tuple ds)
  | dict {a : Addr} {kvs : List (Key × V)} {ks vs : List PyData} : nd = false → H a = some (.dK kvs) →
      ShAll K nd H (kvs.map fun p => kV p.1) ks → ShAll K nd H (kvs.map fun p => p.2) vs →
      Sh K nd H (.ref a) (.dict (ks.zip vs))
inductive ShAll (K : PySem.W.Frag) (nd : Bool) (H : Hp) : List V → List PyData → Prop
  | nil : ShAll K nd H [] []
  | cons {v : V} {vs : List V} {d : PyData} {ds : List PyData} : Sh K nd H v d →
      ShAll K nd H vs ds → ShAll K nd H (v :: vs) (d :: ds)
end
theorem ShAll.length {K : PySem.W.Frag} {nd : Bool} {H : Hp} : ∀ {vs : List V} {ds : List PyData}, ShAll K nd H vs ds → vs.length = ds.length
  | _, _, .nil => rfl
  | _, _, .cons _ t => by rw [List.length_cons, List.length_cons, t.length]
theorem pairs_vals {P : Program} {w : World} : ∀ {es : List DictEntry} {kvs : List (Key × V)} {vs : List (Key × Value)},
    KV kvs vs → Pairs (mixKind P w) es vs →
    Vals (kvs.map fun p => kV p.1) (es.map (·.key)) ∧ Vals (kvs.map fun p => p.2) (es.map (·.val))
  | _, _, _, .nil, .nil => ⟨.nil, .nil⟩
  | _, _, _, .cons ⟨e1, r1⟩ t, .cons h1 h2 ht => by
    obtain ⟨q1, q2⟩ := pairs_vals t ht
    refine ⟨.cons ?_ q1, .cons (by show RelV _ (DictEntry.val _); rw [h2]; exact r1) q2⟩
    have h1' : keyIs _ _ = true := h1
    rw [← e1] at h1'
    show RelV (kV (Prod.fst _)) (DictEntry.key _)
    rcases keyIs_shape h1' with ⟨i, t, e, e2⟩ | ⟨x, t, e, e2⟩
    · rw [e, e2]
      exact ⟨t, rfl⟩
    · rw [e, e2]
      exact ⟨t, rfl⟩
theorem zip_fst : ∀ {α β : Type} (xs : List α) (ys : List β), xs.length = ys.length → (xs.zip ys).map (·.1) = xs
  | _, _, [], _, _ => rfl
  | _, _, x :: xs, y :: ys, h => by
    show x :: (xs.zip ys).map (·.1) = x :: xs
    rw [zip_fst xs ys (Nat.succ.inj h)]
theorem zip_snd : ∀ {α β : Type} (xs : List α) (ys : List β), xs.length = ys.length → (xs.zip ys).map (·.2) = ys
  | _, _, [], [], _ => rfl
  | _, _, x :: xs, y :: ys, h => by
    show y :: (xs.zip ys).map (·.2) = y :: ys
    rw [zip_snd xs ys (Nat.succ.inj h)]
section
variable {X : Cx} {pins : List (Addr × Obj)} {σ : L2.St} {H : Hp} {s : Shared} {nd : Bool}
mutual
theorem Sh.reads (I : Inv X pins σ H s) : ∀ {v : V} {d : PyData} {u : Value}, Sh X.K nd H v d → RelV v u →
    ∃ as, Reads s.heap u d as ∧ (nd = false → sysModules ∉ as) ∧ (nd = true → d.hasDict = false)
  | _, _, _, .non, r => by
    cases r
    exact ⟨_, Reads.none, fun _ h => (nomatch h), fun _ => by simp [PyData.hasDict]⟩
  | _, _, _, .bl b, r => by
    cases r
    exact ⟨_, Reads.bool b, fun _ h => (nomatch h), fun _ => by simp [PyData.hasDict]⟩
  | _, _, _, .int i, r => by
    obtain ⟨t, rfl⟩ := r
    exact ⟨_, Reads.int i t, fun _ h => (nomatch h), fun _ => by simp [PyData.hasDict]⟩
  | _, _, _, .str x, r => by
    obtain ⟨t, rfl⟩ := r
    exact ⟨_, Reads.str x t, fun _ h => (nomatch h), fun _ => by simp [PyData.hasDict]⟩
  | _, _, _, .lst hs hne ha, r => by
    cases r
    obtain ⟨its, rv, ⟨o, n, ho, hc, _, hd⟩, _⟩ := I.list hs
    obtain ⟨as, h1, h2, h3⟩ := ShAll.reads I ha rv
    refine ⟨_, Reads.list ho hc hd h1, fun e hm => ?_, fun e => by simp only [PyData.hasDict]; exact h3 e⟩
    rcases List.mem_cons.mp hm with z | z
    · exact hne e z.symm
    · exact h2 e z
  | _, _, _, .tup hs ha, r => by
    cases r
    obtain ⟨its, rv, ⟨o, ho, hc, n, hd⟩, _⟩ := I.tuple hs
    obtain ⟨as, h1, h2, h3⟩ := ShAll.reads I ha rv
    exact ⟨_, Reads.tuple ho hc hd h1, h2, fun e => by simp only [PyData.hasDict]; exact h3 e⟩
  | _, _, _, .dict (a := a) (kvs := kvs) (ks := ks) (vs := ds) e0 hs hk hv, r => by
    cases r
    have l1 := hk.length
    have l2 := hv.length
    rw [List.length_map] at l1 l2
    have l3 : ks.length = ds.length := l1.symm.trans l2
    obtain ⟨_, hne, vs, kv, o, es, ep, g1, g2, g3, _, g5, _⟩ :=
      (show ObjOk X.prog X.w H s.heap a (.dK kvs) from I.hok a _ hs)
    obtain ⟨v1, v2⟩ := pairs_vals kv g5
    obtain ⟨as, h1, h2, _⟩ := ShAll.reads I hk v1
    obtain ⟨bs, k1, k2, _⟩ := ShAll.reads I hv v2
    refine ⟨_, Reads.dict (kvs := ks.zip ds) g1 g2.1 g3 (by rw [zip_fst ks ds l3]; exact h1)
      (by rw [zip_snd ks ds l3]; exact k1), fun e hm => ?_, fun e => by rw [e0] at e; cases e⟩
    rcases List.mem_append.mp hm with z | z
    · rcases List.mem_cons.mp z with y | y
      · rw [← y] at hne
        simp at hne
      · exact h2 e y
    · exact k2 e z
theorem ShAll.reads (I : Inv X pins σ H s) : ∀ {vs : List V} {ds : List PyData} {us : List Value},
    ShAll X.K nd H vs ds → Vals vs us →
    ∃ as, ReadsAll s.heap us ds as ∧ (nd = false → sysModules ∉ as) ∧ (nd = true → PyData.hasDictAll ds = false)
  | _, _, _, .nil, r => by
    cases r
    exact ⟨_, ReadsAll.nil, fun _ h => (nomatch h), fun _ => by simp [PyData.hasDictAll]⟩
  | _, _, _, .cons h1 h2, .cons r1 r2 => by
    obtain ⟨as, q1, q2, q3⟩ := Sh.reads I h1 r1
    obtain ⟨bs, k1, k2, k3⟩ := ShAll.reads I h2 r2
    refine ⟨_, ReadsAll.cons q1 k1, fun e hm => ?_, fun e => by simp only [PyData.hasDictAll, q3 e, k3 e, Bool.or_self]⟩
    rcases List.mem_append.mp hm with z | z
    · exact q2 e z
    · exact k2 e z
end
/-- repr of a datum -/
def rRepr (K : PySem.W.Frag) : List V → Hp → VK → Prop := fun xs H Q => ∃ (nd : Bool) (x : V) (d : PyData), xs = [x] ∧
  Sh K nd H x d ∧ d.showable = true ∧ d.shown.length ≤ sizeLine ∧ d.depth ≤ 60 ∧ Q (.str d.shown) H
theorem call_reprD (hg : X.A.guards = some []) (hu : X.A.units + 64 < cLine) : CallR X (.builtin "repr") (rRepr X.K) := by
  intro pins s σ H xs us Q I r h
  obtain ⟨nd, x, d, rfl, sh, hs, hz, hd, q⟩ := h
  obtain ⟨u, rfl, ru⟩ : ∃ u, us = [u] ∧ RelV x u := by
    cases r with
    | cons r1 r2 =>
      cases r2
      exact ⟨_, rfl, r1⟩
  obtain ⟨as, rd, n1, n2⟩ := sh.reads I ru
  cases sh with
  | non =>
    cases ru
    exact PySem.P.repr_of_none ⟨.str "None", H, I.tok _, ⟨_, rfl⟩, by simpa [PyData.shown] using q⟩
  | bl b =>
    cases ru
    exact PySem.P.repr_of_bool ⟨.str (if b then "True" else "False"), H, I.tok _, ⟨_, rfl⟩, by simpa [PyData.shown] using q⟩
  | int i =>
    obtain ⟨t, rfl⟩ := ru
    exact PySem.P.repr_of_int (by simpa [PyData.showable] using hs) ⟨.str (toString i), H, I.tok _, ⟨_, rfl⟩, by simpa [PyData.shown] using q⟩
  | str z =>
    obtain ⟨t, rfl⟩ := ru
    exact PySem.P.repr_of_str ⟨.str (reprText z), H, I.tok _, ⟨_, rfl⟩, by simpa [PyData.shown] using q⟩ (by simpa [PyData.shown] using hz)
  | lst h1 h2 h3 =>
    cases ru
    exact repr_of_reads' rd hs (fun e => by cases nd with
      | false => exact n1 rfl
      | true => rw [n2 rfl] at e; cases e) hg (by omega) (fun _ _ e => e) (fun h2 u tk hk => ⟨.str _, H, I.kept hk, ⟨_, rfl⟩, q⟩) hz
  | tup h1 h2 =>
    cases ru
    exact repr_of_reads' rd hs (fun e => by cases nd with
      | false => exact n1 rfl
      | true => rw [n2 rfl] at e; cases e) hg (by omega) (fun _ _ e => e) (fun h2 u tk hk => ⟨.str _, H, I.kept hk, ⟨_, rfl⟩, q⟩) hz
  | dict h1 h2 h3 h4 =>
    cases ru
    exact repr_of_reads' rd hs (fun e => by cases nd with
      | false => exact n1 rfl
      | true => rw [n2 rfl] at e; cases e) hg (by omega) (fun _ _ e => e) (fun h2 u tk hk => ⟨.str _, H, I.kept hk, ⟨_, rfl⟩, q⟩) hz
end
end Kv
/-! The end of a law whose def shows values with repr. -/
namespace Kv
open PySem PySem.Spec PyProof.Rows L2
section
variable {P : Program} {w : World} {K : PySem.W.Frag} {mg mb : Str → Option Value} {CX : CXT} {k : Nat}
  {fa a : Addr} {fd : FuncData} {x : Str} {sp : Sp} {s1 : Shared} {vs : List Value} {ns : List Int}
/-- the list object of the script -/
abbrev scr (vs : List Value) : Obj := { cls := .type "list", data := .seq vs.toArray }
abbrev Done (s1 : Shared) (r : Result) (s2 : Shared) : Prop :=
  r = .ok (.ret (.bool true)) ∧ OldK s1.heap s2.heap ∧ s2.os = s1.os ∧ AllBare s2.gens
/-- from a heap in which at most the script is tracked -/
theorem law_from (H : Hp) (KX : K.In s1.heap) (hns : s1.heap.Ns mainGlobals mg) (hb : s1.heap.Ns builtinsNs mb)
    (hbb : ∀ y : Str, y ≠ "__name__" → mb y = bootBuiltins y) (hlim : s1.heap.NoLimit) (hg : s1.gens = #[])
    (ha : s1.heap.get? a = some (scr vs)) (hr : Room k callerA) (low : sysModules < s1.heap.objs.size)
    (F : ∀ base : Heap, K.In base → base.Ns mainGlobals mg → sysModules < base.objs.size →
      FnG P w K mg base CX k fa fd [x] sp)
    (bind : ∀ (s : Shared) (u : Value), BindsTo s fd ⟨[u], []⟩ [(x, u)])
    (hsp : sp [.ref a] H (fun v _ => v = .bl true) fun _ _ _ => False)
    (hCX : ∀ e s2, CX [] H s1 (fun _ _ _ => False) e s2 → False)
    (hO : Only H) (hok : HOk P w H s1.heap) (hA : ∀ b u, H b = some u → b = a)
    (hK : ∀ u, H a = some u → K.lookup a = none) :
    codeAny (model P w) callerA (.call (.ref fa) ⟨[.ref a], []⟩) (Done s1) s1 := by
  have nodict : ∀ {b : Addr} {o : Obj} {es : Array DictEntry} {ep : Nat},
      s1.heap.get? b = some o → o.data = .dict es ep → H b = none := by
    intro b o es ep e d
    cases q : H b with
    | none => rfl
    | some u =>
      rw [hA b u q, ha] at e
      cases e
      exact nomatch (show Data.seq vs.toArray _ = Data.dict es ep from d)
  have ns2 : ∀ {b : Addr} {m : Str → Option Value}, s1.heap.Ns b m → (hidT s1.heap H).Ns b m := by
    intro b m h
    obtain ⟨o, es, ep, e, d, r⟩ := h
    exact ⟨o, es, ep, hidT_get e (nodict e d), d, r⟩
  have kin : K.In (hidT s1.heap H) := by
    intro b o e
    refine hidT_get (KX b o e) ?_
    cases q : H b with
    | none => rfl
    | some u =>
      have z := hA b u q
      subst z
      rw [hK u q] at e
      cases e
  have md : Mod K mg (hidT s1.heap H) := by
    obtain ⟨mc, l1, l2⟩ := hlim
    exact ⟨kin, ns2 hns, ⟨mb, ns2 hb, hbb⟩, ⟨mc, ns2 l1, l2⟩⟩
  have e0 : Env0 P w K mg (hidT s1.heap H) callerA [] s1 H := by
    refine ⟨rfl, md, fun b o e => of_hidT e, Nat.le_of_eq (hidT_size _ _), trivial, ?_, hok, .of_eq hg⟩
    intro b z
    exact nomatch (show b ∈ ([] : List Addr) from z)
  have low2 : sysModules < (hidT s1.heap H).objs.size := by
    rw [hidT_size]
    exact low
  refine codeAny_mono ((F _ kin (ns2 hns) low2).goes callerA [] s1 H ⟨[.ref a], []⟩ [.ref a] [.ref a] _ _
    rfl hr e0 (bind s1 (.ref a)) (.cons rfl .nil) hsp) fun r s2 h => ?_
  cases r with
  | error e => exact (hCX e s2 h).elim
  | ok fl =>
    cases fl with
    | next => exact h.elim
    | brk => exact h.elim
    | cont => exact h.elim
    | ret u =>
      obtain ⟨v, H2, os, bare, un, hok2, r2, q2⟩ := h
      have q3 : v = .bl true := q2
      subst q3
      obtain rfl : u = Value.bool true := r2
      refine ⟨rfl, OldK.of_keep fun b o e => ?_, os, bare⟩
      rcases hO b with z | ⟨ob, xs, z⟩
      · exact un.keep b o e z (fun y => nomatch (show b ∈ ([] : List Addr) from y)) (by simp)
      · obtain ⟨e1, _⟩ := hok b _ z
        obtain ⟨e2, _⟩ := hok2 b _ (un.frzs b ob _ z)
        rw [e] at e1
        cases e1
        exact e2
/-- the script tracked, unless it is one of the module's own objects -/
theorem law_callG (KX : K.In s1.heap) (hns : s1.heap.Ns mainGlobals mg) (hb : s1.heap.Ns builtinsNs mb)
    (hbb : ∀ y : Str, y ≠ "__name__" → mb y = bootBuiltins y) (hlim : s1.heap.NoLimit) (hg : s1.gens = #[])
    (ha : s1.heap.get? a = some (scr vs)) (hi : IntsAre vs ns) (hl : ns.length ≤ sizeLine)
    (hr : Room k callerA) (low : sysModules < s1.heap.objs.size)
    (F : ∀ base : Heap, K.In base → base.Ns mainGlobals mg → sysModules < base.objs.size →
      FnG P w K mg base CX k fa fd [x] sp)
    (bind : ∀ (s : Shared) (u : Value), BindsTo s fd ⟨[u], []⟩ [(x, u)])
    (hsp : ∀ H : Hp, Only H → SqL K H a (ns.map V.int) →
      sp [.ref a] H (fun v _ => v = .bl true) fun _ _ _ => False)
    (hCX : ∀ H e s2, CX [] H s1 (fun _ _ _ => False) e s2 → False) :
    codeAny (model P w) callerA (.call (.ref fa) ⟨[.ref a], []⟩) (Done s1) s1 := by
  have rv : Vals (ns.map V.int) vs := vals_ints hi
  have len : vs.length = ns.length := by
    have := rv.length
    rw [List.length_map] at this
    exact this.symm
  cases hk : K.lookup a with
  | some o =>
    have e := KX a o hk
    rw [ha] at e
    cases e
    have sq : SqL K (fun _ => none) a (ns.map V.int) := by
      refine Or.inr ⟨_, vs.toArray, _, hk, rfl, rfl, rfl, ?_, by simpa using rv⟩
      rw [List.size_toArray, len]
      exact hl
    have on : Only fun _ => none := fun _ => Or.inl rfl
    refine law_from (fun _ => none) KX hns hb hbb hlim hg ha hr low F bind (hsp _ on sq) (hCX _) on ?_ ?_ ?_
    · intro b u z
      exact nomatch z
    · intro b u z
      exact nomatch z
    · intro u z
      exact nomatch z
  | none =>
    let H : Hp := fun b => if b = a then some (.frz (scr vs) (.lst (ns.map V.int))) else none
    have at1 : H a = some (.frz (scr vs) (.lst (ns.map V.int))) := if_pos rfl
    have out : ∀ b u, H b = some u → b = a ∧ u = .frz (scr vs) (.lst (ns.map V.int)) := by
      intro b u z
      by_cases hb : b = a
      · subst hb
        rw [at1] at z
        exact ⟨rfl, (Option.some.inj z).symm⟩
      · have z2 : (none : Option HO) = some u := (if_neg hb).symm.trans z
        cases z2
    have on : Only H := by
      intro b
      by_cases hb : b = a
      · exact Or.inr ⟨_, _, by rw [hb]; exact at1⟩
      · exact Or.inl (if_neg hb)
    refine law_from H KX hns hb hbb hlim hg ha hr low F bind (hsp _ on (Or.inl (Or.inr ⟨_, at1⟩))) (hCX _) on ?_
      (fun b u z => (out b u z).1) fun _ _ => hk
    intro b u z
    obtain ⟨rfl, rfl⟩ := out b u z
    refine ⟨ha, ?_, vs, _, rv, ha⟩
    rw [List.length_map]
    exact hl
end
/-- the goal that k_head leaves, from the law's promise -/
theorem walk_ofG {l : PySem.W.OpenLaw} {n k : Nat} {q : Program} {loose : List Str}
    {XP : (Str → Option Value) → Heap → Prop} {YP : World → Heap → Prop} {d : DefRec} {K : Params → PySem.W.Frag}
    {sp : World → Sp} {x : Str}
    (hn : l.most = some n) (hn2 : n ≤ sizeLine) (hdf : d.params.defaults = []) (hr : Room k callerA)
    (hY : ∀ (w : World) (h : Heap), YP w h → (K w.params).In h)
    (F : ∀ (w : World) (mg : Str → Option Value) (fa : Addr) (h : Heap), (K w.params).In h →
      h.Ns mainGlobals mg → mg d.name = some (.ref fa) →
      ∃ fd : FuncData, (∀ (s : Shared) (u : Value), BindsTo s fd ⟨[u], []⟩ [(x, u)]) ∧
        ∀ base : Heap, (K w.params).In base → base.Ns mainGlobals mg → sysModules < base.objs.size →
          FnG l.prog w (K w.params) mg base CX0 k fa fd [x] (sp w))
    (hsp : ∀ (w : World) (H : Hp) (a : Addr) (ns : List Int), ns.length ≤ n →
      (∀ z ∈ ns, Builtin.Int.intBits z ≤ 1048576) → Only H → SqL (K w.params) H a (ns.map V.int) →
      sp w [.ref a] H (fun v _ => v = .bl true) fun _ _ _ => False) :
    PySem.W.WalkO q loose XP YP l.row.toRowW d [] (fun f vs => PySem.call f vs) := by
  refine Att.attach_callB hn hdf ?_
  intro w s0 s1 mg mb fa o pm cd doc a vs ns G Y ho hd hcd hmg hobj hints hlen hbits hgens
  have KX := hY w _ Y
  obtain ⟨fd, hb, hF⟩ := F w mg fa _ KX G.T.g hmg
  exact law_callG KX G.T.g G.T.b G.T.builtins G.T.nolimit hgens hobj hints (Nat.le_trans hlen hn2) hr G.low hF hb
    (fun H hO hS => hsp w H a ns hlen hbits hO hS) fun H e s2 z => z
end Kv
/-! Texts of few plain signs; what isinstance says of a datum. -/
namespace Kv
open PySem PySem.Spec PyProof.Rows L2
/-- at most n signs, all below 128 -/
def Sm (n : Nat) (x : Str) : Prop := x.length ≤ n ∧ ∀ c ∈ x.cps.toList, c < 128
theorem len_list (x : Str) : x.length = x.cps.toList.length := by
  show x.cps.size = _
  rw [Array.length_toList]
theorem Sm.mono {n m : Nat} {x : Str} (h : Sm n x) (hn : n ≤ m) : Sm m x := ⟨Nat.le_trans h.1 hn, h.2⟩
theorem Sm.app {n m : Nat} {x y : Str} (h : Sm n x) (k : Sm m y) : Sm (n + m) (x ++ y) := by
  have e : (x ++ y).cps.toList = x.cps.toList ++ y.cps.toList := TL.tl_append x y
  refine ⟨?_, fun c hc => ?_⟩
  · rw [len_list, e, List.length_append, ← len_list, ← len_list]
    exact Nat.add_le_add h.1 k.1
  · rw [e] at hc
    rcases List.mem_append.mp hc with z | z
    · exact h.2 c z
    · exact k.2 c z
theorem Sm.cut {n : Nat} {x : Str} (h : Sm n x) (lo hi : Option Int) : Sm n (cutS x lo hi) := by
  have e : (cutS x lo hi).cps.toList = (x.cps.toList.drop (HT.sIx x.length 0 lo)).take (HT.sIx x.length x.length hi - HT.sIx x.length 0 lo) := by
    unfold cutS
    rfl
  refine ⟨?_, fun c hc => ?_⟩
  · rw [len_list, e]
    rw [List.length_take, List.length_drop, ← len_list]
    have := h.1
    omega
  · rw [e] at hc
    exact h.2 c (List.mem_of_mem_drop (List.mem_of_mem_take hc))
theorem Sm.upper {n : Nat} {x : Str} (h : Sm n x) : Sm n (Txt.upper x) := by
  rw [upper_ascii h.2]
  refine ⟨?_, fun c hc => ?_⟩
  · show (x.cps.map up1).size ≤ n
    rw [Array.size_map]
    exact h.1
  · have hc2 : c ∈ (x.cps.map up1).toList := hc
    rw [Array.toList_map] at hc2
    obtain ⟨d, hd, rfl⟩ := List.mem_map.mp hc2
    have := h.2 d hd
    unfold up1
    split <;> omega
theorem joinL_nil : ∀ ps : List (List Nat), TL.joinL [] ps = ps.flatten
  | [] => rfl
  | [p] => by simp [TL.joinL]
  | p :: q :: r => by
    show p ++ ([] ++ TL.joinL [] (q :: r)) = _
    rw [joinL_nil (q :: r)]
    simp
/-- texts of one plain sign each, joined by nothing -/
theorem Sm.join : ∀ {ys : List Str}, (∀ y ∈ ys, Sm 1 y) → Sm ys.length (Txt.join "" ys) := by
  intro ys hy
  have e : (Txt.join "" ys).cps.toList = (ys.map TL.tl).flatten := by
    rw [TL.join_eq]
    show TL.tl (Str.join _ _) = _
    rw [TL.tl_join]
    exact joinL_nil _
  refine ⟨?_, fun c hc => ?_⟩
  · rw [len_list, e]
    clear e
    induction ys with
    | nil => exact Nat.le_refl _
    | cons y r ih =>
      have h1 := (hy y (List.mem_cons_self ..)).1
      have h2 := ih fun z hz => hy z (List.mem_cons_of_mem _ hz)
      rw [len_list] at h1
      simp only [List.map_cons, List.flatten_cons, List.length_append, List.length_cons]
      have h3 : (TL.tl y).length ≤ 1 := h1
      omega
  · rw [e] at hc
    obtain ⟨l, hl, hcl⟩ := List.mem_flatten.mp hc
    obtain ⟨y, hm, rfl⟩ := List.mem_map.mp hl
    exact (hy y hm).2 c hcl
theorem Sm.shown {n : Nat} {x : Str} (h : Sm n x) : (reprText x).length ≤ 10 * n + 2 := by
  have := PySem.StrLaws.reprText_len x fun c hc => Nat.lt_trans (h.2 c hc) (by decide)
  have := h.1
  omega
theorem sz1 : ∀ {n : Nat}, n ≤ 1000 → n < sizeLine := fun h => small1000 h
theorem szle {n : Nat} (h : n ≤ 10000) : n ≤ sizeLine := Nat.le_trans h (by decide)
theorem Sm.le {n : Nat} {x : Str} (h : Sm n x) (hn : n ≤ 10000 := by decide) : x.length ≤ sizeLine := szle (Nat.le_trans h.1 hn)
theorem Sm.le2 {n m : Nat} {x y : Str} (h : Sm n x) (k : Sm m y) (hn : n + m ≤ 10000 := by decide) : x.length + y.length ≤ sizeLine :=
  szle (Nat.le_trans (Nat.add_le_add h.1 k.1) hn)
theorem atI_some {α : Type} {L : List α} {d : Int} (h0 : 0 ≤ d) (h1 : d < L.length) : ∃ c, atI L d = some c ∧ c ∈ L := by
  obtain ⟨j, rfl⟩ := Int.eq_ofNat_of_zero_le h0
  have hj : j < L.length := by omega
  exact ⟨L[j], atI_nat (List.getElem?_eq_getElem hj), List.getElem_mem hj⟩
/-- what isinstance(x, str) says of a datum -/
theorem Sh.ty {K : PySem.W.Frag} {nd : Bool} {H : Hp} {v : V} {d : PyData} (h : Sh K nd H v d) :
    ∃ T : String, TyX K H v (.type T) ∧ ((∃ x, v = .str x ∧ T = "str") ∨ ((∀ x, v ≠ .str x) ∧ (T = "NoneType" ∨ T = "bool" ∨ T = "int" ∨ T = "list" ∨ T = "tuple" ∨ T = "dict"))) := by
  cases h with
  | non => exact ⟨_, .base .non, .inr ⟨(fun x e => nomatch e), by simp⟩⟩
  | bl b => exact ⟨_, .base (.bl b), .inr ⟨(fun x e => nomatch e), by simp⟩⟩
  | int i => exact ⟨_, .base (.int i), .inr ⟨(fun x e => nomatch e), by simp⟩⟩
  | str x => exact ⟨_, .base (.str x), .inl ⟨x, rfl, rfl⟩⟩
  | lst hs _ _ =>
    refine ⟨"list", ?_, .inr ⟨(fun x e => nomatch e), by simp⟩⟩
    rcases hs with (h | ⟨o, h⟩) | ⟨o, its, n, hk, hc, _⟩
    · exact .base (.lst h)
    · exact .base (.frz h)
    · exact .kList hk hc
  | tup hs _ =>
    refine ⟨"tuple", ?_, .inr ⟨(fun x e => nomatch e), by simp⟩⟩
    rcases hs with (h | ⟨o, h⟩) | ⟨o, its, n, hk, hc, _⟩
    · exact .base (.tup h)
    · exact .fTuple h
    · exact .kTuple hk hc
  | dict _ h _ _ => exact ⟨"dict", .base (.dK h), .inr ⟨(fun x e => nomatch e), by simp⟩⟩
mutual
theorem Sh.same {K : PySem.W.Frag} {nd : Bool} {H H' : Hp} (s : Same H H') : ∀ {v : V} {d : PyData}, Sh K nd H v d → Sh K nd H' v d
  | _, _, .non => .non
  | _, _, .bl b => .bl b
  | _, _, .int i => .int i
  | _, _, .str x => .str x
  | _, _, .lst h1 h2 h3 => .lst (s.seq h1) h2 (ShAll.same s h3)
  | _, _, .tup h1 h3 => .tup (by
      rcases h1 with (h | ⟨o, h⟩) | h
      · exact .inl (.inl (s _ _ h))
      · exact .inl (.inr ⟨o, s _ _ h⟩)
      · exact .inr h) (ShAll.same s h3)
  | _, _, .dict e h1 h2 h3 => .dict e (s _ _ h1) (ShAll.same s h2) (ShAll.same s h3)
theorem ShAll.same {K : PySem.W.Frag} {nd : Bool} {H H' : Hp} (s : Same H H') : ∀ {vs : List V} {ds : List PyData}, ShAll K nd H vs ds → ShAll K nd H' vs ds
  | _, _, .nil => .nil
  | _, _, .cons h1 h2 => .cons (Sh.same s h1) (ShAll.same s h2)
end
/-! ### f(k = v): keywords alone -/
section
variable {X : Cx} {CX : CXT} {k : Nat} {f : Addr} {fd : FuncData} {ps ks : List Str} {sp : Sp} {E : XK}
  {x : Str} {p pos : Pos} {kws : List Keyword} {tk : TA}
  {g : List Value → List Value → List Value} {gV : List V → List V → List V}
theorem pe_kwOnly (F : FnOk X.prog X.w X.K X.mg X.base CX k f fd ps sp) (hr : Room k X.A) (hg : Gl X x)
    (hm : X.mg x = some (.ref f)) (hk : PySem.W.keepIn X.K (.ref f) = true) (hb : KBinds X.K fd ps ks g gV)
    (hx : Passes CX X E) (hkw : PK X kws tk)
    (hall : (backToKw pos (keywordEach kws X.env)).all (·.1.isSome) = true := by rfl)
    (hks : (backToKw pos (keywordEach kws X.env)).filterMap (·.1) = ks := by rfl)
    (hdb : (x == ("__debug__" : Str)) = false := by decide)
    (hpl : ((backTo pos (starEach [] X.env)).any (·.1) || (backToKw pos (keywordEach kws X.env)).any (·.1.isNone)) = false := by rfl) :
    PE X (.Call (.Name x p) [] kws pos) (tCallK sp gV E tNil tk) := by
  constructor
  intro pins s σ H Q I h
  refine wpAny_Call_Name_kw (ld_glob I hg hm ?_ hdb)
  refine PySem.W.callWith_KW0 (h₀ := X.base) I.ok.mod.kin hk hall ?_ hpl
  refine thn (hkw.run pos pins s σ H _ I h) fun ws s2 ⟨zs, H2, I2, rz, q2⟩ => ⟨I2.kIn, ?_⟩
  rw [hks]
  exact run_fnk (us := []) (vs := []) F hr hb hx I2 .nil rz q2
end
end Kv
/-! Data that are small enough to be shown. -/
namespace Kv
open PySem PySem.Spec PyProof.Rows L2
def Fit (n m : Nat) (d : PyData) : Prop := d.showable = true ∧ d.leavesShort 250 = true ∧ d.weight ≤ n ∧ d.depth ≤ m
def FitAll (n m : Nat) (ds : List PyData) : Prop :=
  PyData.showableAll ds = true ∧ PyData.leavesShortAll 250 ds = true ∧ PyData.weightAll ds ≤ n ∧ PyData.depthAll ds ≤ m
def FitKv (n m : Nat) (ds : List (PyData × PyData)) : Prop :=
  PyData.showableKv ds = true ∧ PyData.leavesShortKv 250 ds = true ∧ PyData.weightKv ds ≤ n ∧ PyData.depthKv ds ≤ m
theorem Fit.mono {n m n' m' : Nat} {d : PyData} (h : Fit n m d) (a : n ≤ n') (b : m ≤ m') : Fit n' m' d :=
  ⟨h.1, h.2.1, Nat.le_trans h.2.2.1 a, Nat.le_trans h.2.2.2 b⟩
theorem FitAll.mono {n m n' m' : Nat} {d : List PyData} (h : FitAll n m d) (a : n ≤ n') (b : m ≤ m') : FitAll n' m' d :=
  ⟨h.1, h.2.1, Nat.le_trans h.2.2.1 a, Nat.le_trans h.2.2.2 b⟩
theorem fit_non : Fit 0 0 .none := ⟨by simp [PyData.showable], by simp [PyData.leavesShort], by simp [PyData.weight], by simp [PyData.depth]⟩
theorem fit_bl {b : Bool} : Fit 0 0 (.bool b) := ⟨by simp [PyData.showable], by simp [PyData.leavesShort], by simp [PyData.weight], by simp [PyData.depth]⟩
theorem log2_small {i : Int} (h : i.natAbs ≤ 10 ^ 60) : i.natAbs.log2 < 200 := by
  by_cases h0 : i.natAbs = 0
  · rw [h0]
    decide
  · exact (Nat.log2_lt h0).mpr (Nat.lt_of_le_of_lt h (by decide))
theorem fit_int {i : Int} (h : i.natAbs ≤ 10 ^ 60) : Fit 200 0 (.int i) := by
  have hl := log2_small h
  refine ⟨?_, ?_, ?_, by simp [PyData.depth]⟩
  · simp only [PyData.showable, decide_eq_true_eq]
    omega
  · simp only [PyData.leavesShort]
    refine decide_eq_true ?_
    have e := int_text_length_le (k := 200) (by decide) hl
    have e2 : (PyData.shown (.int i)).length = (toString i).length := by
      simp only [PyData.shown]
      exact PySem.ofString_length _
    omega
  · simp only [PyData.weight]
    split <;> omega
theorem Sm.fit {n : Nat} {x : Str} (h : Sm n x) : Fit n 0 (.str x) := by
  refine ⟨by simp [PyData.showable], ?_, ?_, by simp [PyData.depth]⟩
  · simp only [PyData.leavesShort, List.all_eq_true, decide_eq_true_eq]
    intro c hc
    exact Nat.lt_trans (h.2 c hc) (by decide)
  · simp only [PyData.weight]
    exact h.1
theorem fitAll_nil {m : Nat} : FitAll 0 m [] := ⟨by simp [PyData.showableAll], by simp [PyData.leavesShortAll], by simp [PyData.weightAll], by simp [PyData.depthAll]⟩
theorem FitAll.cons {n n' m : Nat} {d : PyData} {ds : List PyData} (a : Fit n m d) (b : FitAll n' m ds) : FitAll (n + 1 + n') m (d :: ds) := by
  obtain ⟨a1, a2, a3, a4⟩ := a
  obtain ⟨b1, b2, b3, b4⟩ := b
  refine ⟨?_, ?_, ?_, ?_⟩
  · simp only [PyData.showableAll, a1, b1, Bool.and_self]
  · simp only [PyData.leavesShortAll, a2, b2, Bool.and_self]
  · simp only [PyData.weightAll]
    omega
  · simp only [PyData.depthAll]
    omega
theorem Fit.lst {n m : Nat} {ds : List PyData} (a : FitAll n m ds) : Fit n (m + 1) (.list ds) := by
  obtain ⟨a1, a2, a3, a4⟩ := a
  refine ⟨?_, ?_, ?_, ?_⟩
  · simp only [PyData.showable, a1]
  · simp only [PyData.leavesShort, a2]
  · simp only [PyData.weight]
    omega
  · simp only [PyData.depth]
    omega
theorem Fit.tup {n m : Nat} {ds : List PyData} (a : FitAll n m ds) : Fit n (m + 1) (.tuple ds) := by
  obtain ⟨a1, a2, a3, a4⟩ := a
  refine ⟨?_, ?_, ?_, ?_⟩
  · simp only [PyData.showable, a1]
  · simp only [PyData.leavesShort, a2]
  · simp only [PyData.weight]
    omega
  · simp only [PyData.depth]
    omega
theorem fitKv_nil {m : Nat} : FitKv 0 m [] := ⟨by simp [PyData.showableKv], by simp [PyData.leavesShortKv], by simp [PyData.weightKv], by simp [PyData.depthKv]⟩
theorem Fit.consKv {n n' n2 m : Nat} {d e : PyData} {ds : List (PyData × PyData)} (a : Fit n m d) (c : Fit n2 m e) (b : FitKv n' m ds) : FitKv (n + n2 + 2 + n') m ((d, e) :: ds) := by
  obtain ⟨a1, a2, a3, a4⟩ := a
  obtain ⟨b1, b2, b3, b4⟩ := b
  obtain ⟨c1, c2, c3, c4⟩ := c
  refine ⟨?_, ?_, ?_, ?_⟩
  · simp only [PyData.showableKv, a1, b1, c1, Bool.and_self]
  · simp only [PyData.leavesShortKv, a2, b2, c2, Bool.and_self]
  · simp only [PyData.weightKv]
    omega
  · simp only [PyData.depthKv]
    omega
theorem Fit.dict {n m : Nat} {ds : List (PyData × PyData)} (a : FitKv n m ds) : Fit n (m + 1) (.dict ds) := by
  obtain ⟨a1, a2, a3, a4⟩ := a
  refine ⟨?_, ?_, ?_, ?_⟩
  · simp only [PyData.showable, a1]
  · simp only [PyData.leavesShort, a2]
  · simp only [PyData.weight]
    omega
  · simp only [PyData.depth]
    omega
theorem Fit.ok {n m : Nat} {d : PyData} (h : Fit n m d) (hn : n ≤ 60000) (hm : m ≤ 60) : d.showable = true ∧ d.shown.length ≤ sizeLine ∧ d.depth ≤ 60 := by
  obtain ⟨h1, h2, h3, h4⟩ := h
  refine ⟨h1, ?_, by omega⟩
  have := PyData.shown_le 250 (by decide) d h2
  rw [sizeLine_eq]
  omega
/-- a value that can be shown -/
def Good (K : PySem.W.Frag) (H : Hp) (v : V) : Prop := ∃ (nd : Bool) (d : PyData), Sh K nd H v d ∧ Fit 2000 20 d ∧ ∀ x, v = .str x → Sm 1000 x
theorem Good.same {K : PySem.W.Frag} {H H' : Hp} {v : V} (g : Good K H v) (s : Same H H') : Good K H' v := by
  obtain ⟨nd, d, h, r⟩ := g
  exact ⟨nd, d, h.same s, r⟩
theorem Good.non {K : PySem.W.Frag} {H : Hp} : Good K H .non := ⟨true, _, .non, fit_non.mono (by decide) (by decide), fun x e => nomatch e⟩
theorem Good.bl {K : PySem.W.Frag} {H : Hp} {b : Bool} : Good K H (.bl b) := ⟨true, _, .bl b, fit_bl.mono (by decide) (by decide), fun x e => nomatch e⟩
theorem Good.int {K : PySem.W.Frag} {H : Hp} {i : Int} (h : i.natAbs ≤ 10 ^ 60) : Good K H (.int i) := ⟨true, _, .int i, (fit_int h).mono (by decide) (by decide), fun x e => nomatch e⟩
theorem Good.str {K : PySem.W.Frag} {H : Hp} {x : Str} {n : Nat} (h : Sm n x) (hn : n ≤ 1000 := by decide) : Good K H (.str x) :=
  ⟨true, _, .str x, h.fit.mono (by omega) (by decide), fun y e => by
    cases e
    exact h.mono hn⟩
end Kv
/-! len(set(t)), t a tuple of texts, of any number. -/
namespace Kv
open PySem PySem.Spec PyProof.Rows L2
/-- how many different texts stand among the first i -/
def met (xs : List Str) : Nat → Nat
  | 0 => 0
  | i + 1 => if (xs.take i).any (· == xs.getD i Str.empty) then met xs i else met xs i + 1
theorem met_le (xs : List Str) : ∀ i, met xs i ≤ i
  | 0 => Nat.le_refl _
  | i + 1 => by
    have := met_le xs i
    show (if _ then met xs i else met xs i + 1) ≤ _
    split
    · exact Nat.le_succ_of_le this
    · exact Nat.succ_le_succ this
theorem met_nodup {xs : List Str} (h : xs.Nodup) : ∀ i, i ≤ xs.length → met xs i = i
  | 0, _ => rfl
  | i + 1, hi => by
    have ih := met_nodup h i (by omega)
    show (if _ then met xs i else met xs i + 1) = _
    have e : (xs.take i).any (· == xs.getD i Str.empty) = false := by
      rw [List.any_eq_false]
      intro y hy hb
      have hb2 : y = xs.getD i Str.empty := by simpa using hb
      rw [List.getD_eq_getElem?_getD, List.getElem?_eq_getElem (by omega : i < xs.length)] at hb2
      have hb3 : y = xs[i] := hb2
      obtain ⟨j, hj, e1⟩ := List.getElem_of_mem hy
      rw [List.getElem_take] at e1
      have hj2 : j < i := by
        rw [List.length_take] at hj
        omega
      exact (List.pairwise_iff_getElem.mp h j i (by omega) (by omega) hj2) (by rw [e1, hb3])
    rw [e]
    show met xs i + 1 = i + 1
    rw [ih]
section
variable {prog : Program} {w : World} {A : Around} {R : Result → Shared → Prop} {I : Addr} {fp wr : List Addr}
  {G : Array GenState → Array GenState → Prop} {n : Nat} {P : Nat → Value → Prop} {Z : Nat → Shared → Prop}
/-- what the set holds behind i turns -/
abbrev SetBy (prog : Program) (w : World) (h : Heap) (a : Addr) (xs : List Str) (i : Nat) : Prop :=
  h.SetOf (PySem.strKind prog w) a (fun y => (xs.take i).any (· == y)) (met xs i)
theorem SetBy.kept {h h2 : Heap} {a : Addr} {xs : List Str} {i : Nat} (q : SetBy prog w h a xs i)
    (k : ∀ o, h.get? a = some o → h2.get? a = some o) : SetBy prog w h2 a xs i := by
  obtain ⟨o, es, ep, tb, ho, rest⟩ := q
  exact ⟨o, es, ep, tb, k _ ho, rest⟩
theorem fill_texts (W : WalksS prog w A.in1 I fp wr G n P Z) (a : Addr) (ha : a ∉ fp) (xs : List Str)
    (hl : xs.length = n) (hn : n + 1 < scanBound) (hv : ∀ i v, P i v → ∃ t, v = .str (xs.getD i Str.empty) t) :
    ∀ (k i : Nat) (s : Shared), n - i = k → i ≤ n → Z i s → SetBy prog w s.heap a xs i →
      (∀ s2, Moved (a :: wr) G s s2 → SetBy prog w s2.heap a xs n → R (.ok (.ret .none)) s2) →
      codeAny (model prog w) A (.builtin "set.update.loop" ⟨[.ref a, .ref I], []⟩) R s := by
  have haw : a ∉ wr := fun z => ha (W.sub _ z)
  have sub : ∀ b ∈ wr, b ∈ a :: wr := fun b hb => List.mem_cons_of_mem _ hb
  intro k
  induction k with
  | zero =>
    intro i s hk hi hz hS hR
    obtain rfl : i = n := by omega
    refine codeAny_builtin PyProof.Rows.F.entry_set_update_loop ?_
    rw [Around.under_plainId PyProof.Rows.F.plain_set_update_loop _]
    show wpAny _ A.in1 (pyNext (.ref I) >>= _) _ _ s
    refine wpAny_bind (W.done s _ _ hz ?_)
    intro s2 hm
    show wpAny _ A.in1 (ret Value.none) _ _ s2
    refine wpAny_pure (hR s2 (hm.mono sub) (hS.kept ?_))
    intro o ho
    exact hm.heap a _ haw ho
  | succ k ih =>
    intro i s hk hi hz hS hR
    have lt : i < n := by omega
    have mle := met_le xs i
    refine codeAny_builtin PyProof.Rows.F.entry_set_update_loop ?_
    rw [Around.under_plainId PyProof.Rows.F.plain_set_update_loop _]
    show wpAny _ A.in1 (pyNext (.ref I) >>= _) _ _ s
    refine wpAny_bind (W.item i s _ _ lt hz ?_)
    intro v s2 hP hz2 hm
    obtain ⟨t, rfl⟩ := hv i v hP
    have hS2 : SetBy prog w s2.heap a xs i := hS.kept fun o ho => hm.heap a _ haw ho
    show wpAny _ A.in1 (holding [Value.str (xs.getD i Str.empty) t]
      (setAdd a (.str (xs.getD i Str.empty) t)) >>= _) _ _ s2
    refine wpAny_bind (wpAny_holding ?_)
    unfold setAdd
    refine wpAny_holding ?_
    refine wpAny_bind ((PySem.strKind prog w).pyHash (k := xs.getD i Str.empty) (strKind_is _ _ _ _) ?_)
    refine wpAny_setAddHashed_of (knd := PySem.strKind prog w) (s := { s2 with toks := s2.toks + 1 })
      (strKind_is _ _ _ _) rfl hS2 (by omega) ?_
    intro h3 same hS3
    have hS4 : SetBy prog w h3 a xs (i + 1) := by
      refine SetOf_congr hS3 ?_ rfl
      intro y
      have ei : xs[i]? = some (xs.getD i Str.empty) := by
        rw [List.getD_eq_getElem?_getD, List.getElem?_eq_getElem (by omega : i < xs.length)]
        rfl
      rw [List.take_add_one, ei, List.any_append]
      congr 1
      show decide (y = xs.getD i Str.empty) = ([xs.getD i Str.empty].any (· == y))
      simp only [List.any_cons, List.any_nil, Bool.or_false]
      by_cases e : y = xs.getD i Str.empty
      · rw [decide_eq_true e, ← e]
        exact (beq_self_eq_true y).symm
      · rw [decide_eq_false e]
        exact (beq_eq_false_iff_ne.mpr fun z => e z.symm).symm
    refine wpAny_pure ⟨plainId_quiet PyProof.Rows.F.plain_set_update_loop _, ?_⟩
    refine ih (i + 1) _ (by omega) lt (W.frame _ s2 _ _ hz2 (Nat.le_succ _) ?_) hS4 ?_
    · intro b hb o e
      rw [same.2 b (fun z : b = a => ha (z ▸ hb))]
      exact e
    · intro s5 hm5 hS5
      refine hR s5 (Moved.trans W.gtrans ((hm.mono sub).then_heap (Nat.le_succ _) ?_) hm5) hS5
      intro b o hb e
      rw [same.2 b (fun z : b = a => hb (z ▸ List.mem_cons_self))]
      exact e
end
/-- an empty new set -/
abbrev emptySet (led : Bool) : Obj := { cls := .type "set", dict := none, data := .set #[] 0 (.fresh 0 0 led) }
section
variable {prog : Program} {w : World} {A : Around} {E : Value → Shared → Prop} {s : Shared}
set_option maxHeartbeats 3200000 in
theorem set_of_texts {t : Addr} {its : Array Value} {xs : List Str} {Q : Value → Shared → Prop}
    (hh : A.handled = none) (ht : s.heap.IsTuple t its) (hx : PyProof.Rows.StrsAre its.toList xs)
    (hb : xs.length + 1 < scanBound)
    (h : ∀ (h2 : Heap) (tk : Nat), SetBy prog w h2 s.heap.objs.size xs its.size →
      (∀ b o, b < s.heap.objs.size → s.heap.get? b = some o → h2.get? b = some o) →
      Q (.ref s.heap.objs.size) { s with heap := h2, toks := tk }) :
    wpAny (model prog w) A (call (.type "set") [.ref t]) Q E s := by
  obtain ⟨cc, ctl, hmro⟩ := PySem.F.called_set.mro
  have k1 := PySem.F.called_set.made
  have k2 := PySem.F.called_set.sub
  have k3 := PySem.F.called_set.notType
  have k4 := PySem.F.called_set.canCreate
  have k5 := PySem.F.typeCall_set_1 (.ref t)
  refine wpAny_call (codeAny_of_tree ?_)
  show wpAny _ _ (callAny (.type "set") _) _ _ _
  refine wpAny_pure ⟨Code.quiet_builtin _ (by decide +kernel),
    codeAny_builtin PySem.F.entry_type_call ?_⟩
  rw [Around.under_plain (weight_type_call_type "set" [.ref t] []) rfl]
  repeat (any_goals (first | assumption | wp_step))
  refine codeAny_mono (code_set_new_1 (.ref t) (E := E)
    (Q₁ := fun obj s1 => ∃ led : Bool, obj = .ref s.heap.objs.size ∧
      s1 = { s with heap := s.heap.push (emptySet led) }) fun led => ⟨led, rfl, rfl⟩) fun r s1 hr => ?_
  cases r with
  | error e => exact hr
  | ok fl =>
    cases fl with
    | next => exact hr.elim
    | brk => exact hr.elim
    | cont => exact hr.elim
    | ret obj =>
      obtain ⟨led, rfl, rfl⟩ := hr
      have hS : (s.heap.push (emptySet led)).get? s.heap.objs.size = some (emptySet led) :=
        Heap.get?_push_size _ rfl
      have hT : Shared.TypeIs { s with heap := s.heap.push (emptySet led) }
        (.ref s.heap.objs.size) "set" := ⟨_, hS, rfl⟩
      have k6 := PySem.F.called_set.init.lookup
      have k7 := PySem.F.called_set.init.bind (.ref s.heap.objs.size)
      repeat (any_goals (first | assumption | wp_step))
      refine codeAny_mono (codeAny_call_builtin
        (R := wants (fun r s2 => r = .none ∧ ∃ h2 tk, s2 = { s with heap := h2, toks := tk } ∧
          SetBy prog w h2 s.heap.objs.size xs its.size ∧
          (∀ b o, b < s.heap.objs.size → s.heap.get? b = some o → h2.get? b = some o)) E)
        PySem.F.called_set.init.plain PySem.F.entry_set_init (check_set_init_1 hT ?_)) fun r2 s2 hr2 => ?_
      · obtain ⟨ot, hot, hc, nt, hd⟩ := ht
        obtain ⟨c1, d1, dt, sl⟩ := ot
        simp only at hc hd
        subst hc hd
        have hot2 := Heap.get?_push_of_some (emptySet led) hot
        have k8 := PySem.F.sub_tuple_set
        have k9 := PySem.F.sub_tuple_frozenset
        have k10 : (Value.type "tuple" == Value.type "dict") = false := by decide
        have ht1 : (s.heap.push (emptySet led)).IsTuple t its := ⟨_, hot2, rfl, nt, rfl⟩
        unfold Builtin.«set.__init__» noKeywords Builtin.Frozenset.updateFrom
        generalize hPI : pyIter = PI
        wp_walk
        subst hPI
        refine wpAny_pyIter_tuple ht1 ?_
        refine wpAny_bind (wpAny_runValue ?_)
        have ltS : t < s.heap.objs.size := Heap.lt_size hot
        have hh3 : A.in1.in1.in1.handled = none := by simp [hh]
        have ne1 : t ≠ (s.heap.push (emptySet led)).objs.size := by
          rw [Heap.size_push]
          exact Nat.ne_of_lt (Nat.lt_succ_of_lt ltS)
        have nf : s.heap.objs.size ∉ [(s.heap.push (emptySet led)).objs.size, t] := by
          rw [Heap.size_push]
          intro z
          rcases List.mem_cons.mp z with y | y
          · exact absurd y (Nat.ne_of_lt (Nat.lt_succ_self _))
          · exact absurd (List.mem_singleton.mp y) (Nat.ne_of_gt ltS)
        have sz : xs.length = its.size := by
          rw [← StrsAre.len_eq hx, Array.length_toList]
        refine fill_texts ((Walks.tuple hh3 _ t ne1 its).toS) s.heap.objs.size nf xs sz (by omega)
          (fun i v e => SS.strs_at hx i v (by rw [Array.getElem?_toList]; exact e)) (its.size - 0) 0 _ (by omega) (Nat.zero_le _)
          ⟨⟨_, Heap.get?_push_size _ rfl, rfl, rfl⟩, (ht1.push _)⟩ ?c0 ?c1
        case c0 =>
          refine PyProof.Rows.SetOf_congr ((PyProof.Rows.setObjOf_fresh (knd := PySem.strKind prog w) led).setOf
            (Heap.get?_push_of_some _ hS) (by unfold scanBound; omega)) (fun _ => rfl) rfl
        case c1 =>
          intro s3 hm hS3
          obtain ⟨h3, g3, d3, tk3, os3⟩ := s3
          obtain rfl : g3 = s.gens := hm.gens
          obtain rfl : d3 = s.drawn := hm.drawn
          obtain rfl : os3 = s.os := hm.os
          show wpAny _ _ _ _ _ _
          refine wpAny_pure ?_
          show wpAny _ _ (ret Value.none) _ _ _
          refine wpAny_pure ⟨rfl, h3, tk3, rfl, hS3, ?_⟩
          intro b o hb e
          refine hm.heap b o ?_ (Heap.get?_push_of_some _ (Heap.get?_push_of_some _ e))
          intro z
          rcases List.mem_cons.mp z with y | y
          · exact absurd y (Nat.ne_of_lt hb)
          · have y2 := List.mem_singleton.mp y
            rw [Heap.size_push] at y2
            exact absurd y2 (Nat.ne_of_lt (Nat.lt_succ_of_lt hb))
      · cases r2 with
        | error e => exact hr2
        | ok fl2 =>
          cases fl2 with
          | next => exact hr2.elim
          | brk => exact hr2.elim
          | cont => exact hr2.elim
          | ret r =>
            obtain ⟨rfl, h2, tk, rfl, hS2, kp⟩ := hr2
            repeat (any_goals (first | assumption | wp_step))
            exact h _ _ hS2 kp
end
/-- len(set(t)) -/
def tLenTexts (K : PySem.W.Frag) (ta : TE) : TE := fun σ H Q => ta σ H fun x H1 =>
  ∃ (l : Addr) (xs : List Str), x = .ref l ∧ SqT K H1 l (xs.map V.str) ∧ xs.length ≤ 4000 ∧ Q (.int (met xs xs.length : Nat)) H1
section
variable {X : Cx} {a : Expr} {ta : TE} {p p2 q pos : Pos}
theorem pe_lenTexts (hc : X.calm = true) (hg : Gl X "len") (hm : X.mg "len" = none) (hg2 : Gl X "set")
    (hm2 : X.mg "set" = none) (ha : PE X a ta)
    (na : starEach [a] X.env = (false, eval a X.env) :: starEach [] X.env := by rfl) :
    PE X (.Call (.Name "len" p) [.Call (.Name "set" p2) [a] [] q] [] pos) (tLenTexts X.K ta) := by
  constructor
  intro pins s σ H Q I h
  refine Call_ (ld_blt I hg hm boot_len ?_)
  refine PyProof.Rows.callWith_builtin1
    (PyProof.Rows.args_cons ?_ rfl) rfl rfl
  refine Call_ (ld_blt I hg2 hm2 boot_set ?_)
  refine PyProof.Rows.callWith_type1 (PyProof.Rows.args_cons (thn (ha.run pins s σ H _ I h)
    fun v s1 ⟨x, H1, I1, r1, q1⟩ => PyProof.Rows.args_nil ?_) na) na rfl
  obtain ⟨l, xs, rfl, hq, hn, q1⟩ := q1
  cases r1
  obtain ⟨its, r, pl, hz⟩ := I1.tuple hq
  have hl : its.toArray.size = xs.length := by
    rw [List.size_toArray, ← r.length, List.length_map]
  refine set_of_texts (I1.ok.hd hc) pl (by simpa using strsAre_of r) (by unfold scanBound; omega) ?_
  intro h2 tk hS hk
  refine PyProof.Rows.args_nil ?_
  rw [hl] at hS
  obtain ⟨o, es, ep, t, ho, hex, hd, _, _, _, hf, hsz⟩ := hS
  have I2 : Inv X pins σ H1 { s1 with heap := h2, toks := tk } :=
    I1.kept fun b o e => hk b o (Heap.lt_size e) e
  have mle := met_le xs xs.length
  exact call_len_set ho hex hd hf (by rw [hsz]; omega)
    ⟨.int (met xs xs.length : Nat), H1, I2.tok _, ⟨_, by rw [hsz]⟩, q1⟩
end
end Kv
namespace Lw
open PySem PySem.Spec PyProof.Rows L2 Kv
def topS (i : Nat) : Stmt := PySem.Challenge.pw_fewestmethods_k21_points_judged.main.body.getD i (.Pass ⟨0, 0, 0, 0⟩)
abbrev c_MethodsError : Stmt := topS 2
abbrev i_MethodsError : Stmt := inClass c_MethodsError 0
abbrev c_InvalidHierarchy : Stmt := topS 3
abbrev i_InvalidHierarchy : Stmt := inClass c_InvalidHierarchy 0
abbrev c_InvalidText : Stmt := topS 4
abbrev i_InvalidText : Stmt := inClass c_InvalidText 0
abbrev c_NotFound : Stmt := topS 5
abbrev i_NotFound : Stmt := inClass c_NotFound 0
abbrev sIsName : Stmt := topS 9
abbrev sIsCount : Stmt := topS 12
abbrev sIsPoint : Stmt := topS 13
abbrev sAre : Stmt := topS 16
abbrev sProb : Stmt := topS 17
abbrev sAnc : Stmt := topS 18
abbrev sWrite : Stmt := topS 19
abbrev sRead : Stmt := topS 20
abbrev cHier : Stmt := topS 21
abbrev m_init : Stmt := inClass cHier 1
abbrev m_read : Stmt := inClass cHier 2
abbrev m_of : Stmt := inClass cHier 3
abbrev m_eq : Stmt := inClass cHier 4
abbrev m_len : Stmt := inClass cHier 5
abbrev m_repr : Stmt := inClass cHier 6
abbrev m_str : Stmt := inClass cHier 7
abbrev m_names : Stmt := inClass cHier 8
abbrev m_has_class : Stmt := inClass cHier 9
abbrev m_superclasses : Stmt := inClass cHier 10
abbrev m_position_of : Stmt := inClass cHier 11
abbrev m_require_class : Stmt := inClass cHier 12
abbrev m_is_at_or_below : Stmt := inClass cHier 13
abbrev m_ancestors : Stmt := inClass cHier 14
abbrev m_descendants : Stmt := inClass cHier 15
abbrev m_highest_common : Stmt := inClass cHier 16
abbrev m_with_class : Stmt := inClass cHier 17
abbrev m_without_class : Stmt := inClass cHier 18
abbrev sPot : Stmt := topS 23
abbrev sDraw : Stmt := topS 24
abbrev sMixed : Stmt := topS 25
abbrev sName : Stmt := topS 26
abbrev sNames : Stmt := topS 27
abbrev sKinds : Stmt := topS 28
abbrev sOdd : Stmt := topS 29
abbrev sValue : Stmt := topS 30
abbrev sDue : Stmt := topS 31
abbrev sRight : Stmt := topS 32
abbrev sLaw : Stmt := topS 33
end Lw
namespace Kv
open PySem PySem.Spec PyProof.Rows L2
/-- a pot stands at p -/
def PotAt (H : Hp) (p : Addr) : Prop := ∃ r g : Int, H p = some (.lst [.int r, .int g]) ∧ 0 ≤ r ∧ 0 ≤ g ∧ g < 2147483647
/-- all but p is as it was -/
def But (p : Addr) (H H' : Hp) : Prop := ∀ b o, b ≠ p → H b = some o → H' b = some o
theorem But.refl {p : Addr} {H : Hp} : But p H H := fun _ _ _ h => h
theorem But.trans {p : Addr} {H H1 H2 : Hp} (a : But p H H1) (b : But p H1 H2) : But p H H2 :=
  fun c o n h => b c o n (a c o n h)
theorem But.of_same {p : Addr} {H H1 : Hp} (a : Same H H1) : But p H H1 := fun c o _ h => a c o h
theorem same_new {H : Hp} {p : Addr} {o : HO} (h : H p = none) : Same H (upd H p o) := by
  intro b x e
  rw [upd_ne (ne_of_none e h)]
  exact e
theorem PotAt.same {H H' : Hp} {p : Addr} (h : PotAt H p) (s : Same H H') : PotAt H' p := by
  obtain ⟨r, g, e, q⟩ := h
  exact ⟨r, g, s _ _ e, q⟩
theorem divp_small {i j : Int} (hj : 0 < j) (h : j.natAbs < 2 ^ 8000) : CDivP i j := by
  refine ⟨hj, ?_⟩
  have hl : j.natAbs.log2 < 8000 := (Nat.log2_lt (by omega)).mpr h
  show (decide ((if j == 0 then 0 else j.natAbs.log2 / 30 + 1) > 300) && decide (_ > _)) = false
  have z : ¬ ((if j == 0 then 0 else j.natAbs.log2 / 30 + 1) > 300) := by
    split <;> omega
  rw [decide_eq_false z, Bool.false_and]
theorem But.new {p q : Addr} {H H1 : Hp} {o : HO} (a : But p H H1) (n : H1 q = none) : But p H (upd H1 q o) :=
  fun c u nc h => same_new n c u (a c u nc h)
theorem same_new2 {H : Hp} {p : Addr} {o u : HO} (h : H p = none) : Same H (upd (upd H p o) p u) := by
  rw [upd_upd]
  exact same_new h
theorem num_sm {i : Int} (h0 : 0 ≤ i) (h : i.natAbs ≤ 10 ^ 60) : Sm 250 (Str.ofString (toString i)) := by
  obtain ⟨n, rfl⟩ := Int.eq_ofNat_of_zero_le h0
  refine ⟨?_, fun c hc => ?_⟩
  · have e := int_text_length_le (k := 200) (by decide) (log2_small h)
    rw [PySem.ofString_length]
    omega
  · have e : TL.tl (Str.ofString (toString ((n : Nat) : Int))) = TL.numL n := TL.tl_num n
    have hc2 : c ∈ TL.numL n := by
      rw [← e]
      exact hc
    unfold TL.numL at hc2
    obtain ⟨z, hz, rfl⟩ := List.mem_map.mp hc2
    have := Nat.isDigit_of_mem_toDigits (by decide) (by decide) hz
    simp only [Char.isDigit, Bool.and_eq_true, decide_eq_true_eq] at this
    have h2 : z.val.toNat ≤ 57 := this.2
    show z.val.toNat < 128
    omega
theorem But.same {p : Addr} {H0 H H' : Hp} (h : But p H H') (n : H0 p = none) (s : Same H0 H) : Same H0 H' :=
  fun b o e => h b o (ne_of_none e n) (s b o e)
theorem all_true (i : Nat) : (List.replicate i true).all id = true := by
  rw [List.all_eq_true]
  intro b hb
  exact (List.mem_replicate.mp hb).2
def az : List Nat := ("abcdefghijklmnopqrstuvwxyz" : Str).cps.toList
def inAz (c : Nat) : Bool := decide (c ∈ az)
/-- is it a name -/
def nameV : V → Bool
  | .str x => (decide (1 ≤ x.length) && decide (x.length ≤ 8)) && x.cps.toList.all inAz
  | _ => false
theorem nameV_not {v : V} (h : ∀ x, v ≠ .str x) : nameV v = false := by
  cases v with
  | str x => exact absurd rfl (h x)
  | _ => rfl
end Kv
namespace Lw
open PySem PySem.Spec PyProof.Rows L2 Kv
theorem scPot : FnScope ["_law_script", "_law_k", "_law_cell"] ["_law_script", "_law_k"] (defScope sPot) :=
  ⟨rfl, rfl, rfl, by decide +kernel, rfl, by decide +kernel, by decide +kernel⟩
theorem scDraw : FnScope ["_law_pot_here", "_law_many", "_law_digit"] ["_law_pot_here", "_law_many"] (defScope sDraw) :=
  ⟨rfl, rfl, rfl, by decide +kernel, rfl, by decide +kernel, by decide +kernel⟩
section
variable {P : Program} {w : World} {K : PySem.W.Frag} {mg : Str → Option Value} {base : Heap}
def spPot (K : PySem.W.Frag) : Sp := fun vs H Q _ => ∃ (a : Addr) (ns : List Int) (j : Nat),
  vs = [.ref a, .int j] ∧ SqL K H a (ns.map V.int) ∧ j ≤ 1000 ∧
  ∀ p H', Same H H' → H p = none → PotAt H' p → Q (.ref p) H'
theorem ok_pot {f : Addr} {fd : FuncData} {k : Nat} (F : Fun K "_law_pot" "_law_pot" sPot f fd)
    (ml : mg "len" = none) (mm : mg "max" = none) (ma : mg "abs" = none) :
    FnOk P w K mg base CX0 (k + 1) f fd ["_law_script", "_law_k"] (spPot K) := by
  refine F.ok scPot (fun vs H Q E h => ?_) (fun cdv A outer s H vs Q E hr h => ?_)
  · obtain ⟨a, ns, j, rfl, _⟩ := h
    rfl
  · obtain ⟨a, ns, j, rfl, hS, hj, q⟩ := h
    refine ⟨_, pss_cons (ps_set (i := 2) scPot.nd rfl (.inl rfl)
        (pe_ifExp (pt_cmpR op_lt (pv 1) (pe_callB call_len_seq (by rfl) ml PySem.boot_len (pa_cons (pv 0) pa_nil)) (nomark _))
          (pe_ix ix_list (pv 0) (pv 1) (fun _ _ => rfl)) pe_int))
      (pss_one (ps_ret (pe_lst (pa_cons
        (pe_callB (call_max2 rfl) (by rfl) mm (by decide +kernel) (pa_cons pe_int (pa_cons
          (pe_op op_sub (pe_callB call_abs (by rfl) ma (by decide +kernel) (pa_cons (pv 2) pa_nil)) (pe_op op_pow pe_int pe_int)) pa_nil)))
        (pa_cons (pe_op op_mod (pe_op op_add (pe_op op_add (pe_op op_mul (pe_op op_mod (pe_callB call_abs (by rfl) ma (by decide +kernel) (pa_cons (pv 2) pa_nil)) pe_int) pe_int)
          (pe_op op_mul pe_int (pv 1))) pe_int) pe_int) pa_nil))))), ?_⟩
    refine ⟨.int j, rfl, .ref a, rfl, a, _, rfl, .inl hS, _, _, rfl, rfl, _, rfl, ite2 (fun e => ?_) (fun e => ?_)⟩
    · have e1 : (j : Int) < ((ns.map V.int).length : Int) := of_decide_eq_true e
      have e2 : j < ns.length := by
        rw [List.length_map] at e1
        omega
      refine ⟨.ref a, rfl, .int j, rfl, a, _, j, .int ns[j], rfl, rfl, hS, atI_nat (j := j) (by
        rw [List.getElem?_map, List.getElem?_eq_getElem e2]
        rfl), ?_⟩
      generalize ns[j] = c
      have b1 : 0 ≤ (if c < 0 then -c else c) % 2147483587 := Int.emod_nonneg _ (by decide)
      have b2 : (if c < 0 then -c else c) % 2147483587 < 2147483587 := Int.emod_lt_of_pos _ (by decide)
      refine ⟨.int c, rfl, c, rfl, 10, 18, rfl, rfl, ⟨by decide, by decide, by decide⟩, _, _, rfl, rfl, _, _, rfl,
        .int c, rfl, c, rfl, _, _, rfl, rfl, (by decide : (0 : Int) < 2147483587), _, _, rfl, rfl, .inl ⟨?_, ?_⟩,
        .int j, rfl, _, _, rfl, rfl, .inl ⟨by decide, by decide⟩, _, _, rfl, rfl, _, _, rfl, rfl, _, _, rfl, rfl, (by decide : (0 : Int) < 2147483647),
        (by decide : 2 ≤ sizeLine), fun p np => ?_⟩
      · omega
      · omega
      · exact q p _ (same_new np) np ⟨_, _, upd_same, by split <;> omega, Int.emod_nonneg _ (by decide), Int.emod_lt_of_pos _ (by decide)⟩
    · have b1 : 0 ≤ (if (0 : Int) < 0 then -0 else 0) % 2147483587 := Int.emod_nonneg _ (by decide)
      have b2 : (if (0 : Int) < 0 then -0 else 0) % 2147483587 < 2147483587 := Int.emod_lt_of_pos _ (by decide)
      refine ⟨.int 0, rfl, 0, rfl, 10, 18, rfl, rfl, ⟨by decide, by decide, by decide⟩, _, _, rfl, rfl, _, _, rfl,
        .int 0, rfl, 0, rfl, _, _, rfl, rfl, (by decide : (0 : Int) < 2147483587), _, _, rfl, rfl, .inl ⟨?_, ?_⟩,
        .int j, rfl, _, _, rfl, rfl, .inl ⟨by decide, by decide⟩, _, _, rfl, rfl, _, _, rfl, rfl, _, _, rfl, rfl, (by decide : (0 : Int) < 2147483647),
        (by decide : 2 ≤ sizeLine), fun p np => ?_⟩
      · omega
      · omega
      · exact q p _ (same_new np) np ⟨_, _, upd_same, by split <;> omega, Int.emod_nonneg _ (by decide), Int.emod_lt_of_pos _ (by decide)⟩
end
section
variable {P : Program} {w : World} {K : PySem.W.Frag} {mg : Str → Option Value} {base : Heap}
def spDraw : Sp := fun vs H Q _ => ∃ (p : Addr) (m : Int), vs = [.ref p, .int m] ∧ PotAt H p ∧ 0 < m ∧ m ≤ 10 ^ 60 ∧
  ∀ H' (d : Int), 0 ≤ d → d < m → PotAt H' p → But p H H' → Q (.int d) H'
theorem ok_draw {f : Addr} {fd : FuncData} {k : Nat} (F : Fun K "_law_draw" "_law_draw" sDraw f fd)
    (md : mg "divmod" = none) : FnOk P w K mg base CX0 (k + 1) f fd ["_law_pot_here", "_law_many"] spDraw := by
  refine F.ok scDraw (fun vs H Q E h => ?_) (fun cdv A outer s H vs Q E hr h => ?_)
  · obtain ⟨a, m, rfl, _⟩ := h
    rfl
  · obtain ⟨a, m, rfl, ⟨r, g, hp, r0, g0, g1⟩, m0, m1, q⟩ := h
    refine ⟨_, pss_cons (ps_if (pt_cmpR op_gt (pe_ix ix_list (pv 0) pe_int (fun _ _ => rfl)) pe_int (nomark _))
        (pss_cons (ps_asg (pe_callB call_divmodW (by rfl) md (by decide +kernel) (pa_cons (pe_ix ix_list (pv 0) pe_int (fun _ _ => rfl)) (pa_cons (pv 1) pa_nil)))
            (pg_tup (by rfl) (pgs_cons (pg_sub (pv 0) pe_int set_list) (pgs_cons (pg_name (i := 2) scDraw.nd rfl (.inl rfl)) pgs_nil))))
          (pss_one (ps_ret (pv 2)))) pss_nil)
      (pss_cons (ps_asg (pe_op op_mod (pe_op op_add (pe_op op_mul (pe_ix ix_list (pv 0) pe_int (fun _ _ => rfl)) pe_int) pe_int) pe_int) (pg_sub (pv 0) pe_int set_list))
      (pss_one (ps_ret (pe_op op_mod (pe_op op_fdiv (pe_op op_mod (pe_op op_mul (pe_ix ix_list (pv 0) pe_int (fun _ _ => rfl)) (pe_ix ix_list (pv 0) pe_int (fun _ _ => rfl))) pe_int) pe_int) (pv 1))))), ?_⟩
    have hS : SqL K H a [.int r, .int g] := .inl (.inl hp)
    refine ⟨.ref a, rfl, a, _, 0, .int r, rfl, rfl, hS, rfl, _, _, rfl, rfl, _, rfl, ite2 (fun e => ?_) (fun e => ?_)⟩
    · have e1 : r > 0 := of_decide_eq_true e
      refine ⟨.ref a, rfl, a, _, 0, .int r, rfl, rfl, hS, rfl, .int m, rfl, _, _, rfl, divp_small m0 ?_, fun t nt => ?_⟩
      · have : m.natAbs ≤ 10 ^ 60 := by omega
        exact Nat.lt_of_le_of_lt this (Nat.lt_of_lt_of_le (by decide : 10 ^ 60 < 2 ^ 200) (Nat.pow_le_pow_right (by decide) (by decide)))
      · have nta : a ≠ t := ne_of_none hp nt
        refine ⟨t, _, rfl, .inl (.inl upd_same), rfl, _, _, rfl, .ref a, rfl, a, _, 0, 0, rfl, rfl, (by rw [upd_ne nta]; exact hp), rfl, _, _, rfl, rfl, _, rfl, ?_⟩
        refine q _ _ (Int.emod_nonneg _ (by omega)) (Int.emod_lt_of_pos _ m0) ⟨_, _, upd_same, Int.ediv_nonneg r0 (by omega), g0, g1⟩ ?_
        intro b o nb hb
        rw [upd_ne nb, upd_ne (ne_of_none hb nt)]
        exact hb
    · refine ⟨.ref a, rfl, a, _, 1, .int g, rfl, rfl, hS, rfl, _, _, rfl, rfl, .inl ⟨by omega, by omega⟩, _, _, rfl, rfl, _, _, rfl, rfl, (by decide : (0 : Int) < 2147483629),
        .ref a, rfl, a, _, 1, 1, rfl, rfl, hp, rfl, ?_⟩
      have b0 : 0 ≤ ((g * 39373 + 12227) % 2147483629) := Int.emod_nonneg _ (by decide)
      have b1 : ((g * 39373 + 12227) % 2147483629) < 2147483629 := Int.emod_lt_of_pos _ (by decide)
      have hS2 : SqL K (upd H a (.lst [.int r, .int ((g * 39373 + 12227) % 2147483629)])) a [.int r, .int ((g * 39373 + 12227) % 2147483629)] := .inl (.inl upd_same)
      refine ⟨.ref a, rfl, a, _, 1, .int ((g * 39373 + 12227) % 2147483629), rfl, rfl, hS2, rfl, .ref a, rfl, a, _, 1, .int ((g * 39373 + 12227) % 2147483629), rfl, rfl, hS2, rfl, _, _, rfl, rfl, .inl ⟨by omega, by omega⟩,
        _, _, rfl, rfl, (by decide : (0 : Int) < 2147483563), _, _, rfl, rfl, ⟨by decide, by decide⟩, .int m, rfl, _, _, rfl, rfl, m0, ?_⟩
      refine q _ _ (Int.emod_nonneg _ (by omega)) (Int.emod_lt_of_pos _ m0) ⟨_, _, upd_same, r0, b0, by omega⟩ ?_
      intro b o nb hb
      rw [upd_ne nb]
      exact hb
end
end Lw
namespace Lw
open PySem PySem.Spec PyProof.Rows L2 Kv
theorem scIsName : FnScope ["value", "letter"] ["value"] (defScope sIsName) :=
  ⟨rfl, rfl, rfl, by decide +kernel, rfl, by decide +kernel, by decide +kernel⟩
section
variable {P : Program} {w : World} {K : PySem.W.Frag} {mg : Str → Option Value} {base : Heap}
def spName (K : PySem.W.Frag) : Sp := fun vs H Q _ => ∃ v : V, vs = [v] ∧ Good K H v ∧ ∀ H', Same H H' → Q (.bl (nameV v)) H'
theorem ok_isname {f : Addr} {fd : FuncData} {k : Nat} {t1 t2 : Tok} (F : Fun K "is_name" "is_name" sIsName f fd)
    (mi : mg "isinstance" = none) (ms : mg "str" = none) (ml : mg "len" = none) (ma : mg "all" = none)
    (g1 : mg "LETTERS" = some (.str "abcdefghijklmnopqrstuvwxyz" t1)) (g2 : mg "LONGEST_NAME" = some (.int 8 t2)) :
    FnOk P w K mg base CX0 (k + 1) f fd ["value"] (spName K) := by
  refine F.ok scIsName (fun vs H Q E h => ?_) (fun cdv A outer s H vs Q E hr h => ?_)
  · obtain ⟨a, rfl, _⟩ := h
    rfl
  · obtain ⟨v, rfl, ⟨nd, d, sh, hf, hv⟩, q⟩ := h
    refine ⟨_, pss_cons (ps_if (pt_not (pt_val (pe_callB call_isi (by rfl) mi (by decide +kernel) (pa_cons (pv 0)
          (pa_cons (pe_bltn (v := .ty "str") (by rfl) ms (by decide +kernel : bootBuiltins "str" = some (.type "str")) rfl) pa_nil))))) (pss_one (ps_ret pe_bl)) pss_nil)
      (pss_one (ps_ret (pe_and (pe_chain op_le op_le pe_int (pe_callB call_len_str (by rfl) ml PySem.boot_len (pa_cons (pv 0) pa_nil)) (pe_glob (v := .int 8) (by rfl) g2 ⟨_, rfl⟩))
        (pe_one (pe_callB (cr_all rfl) (by rfl) ma (by decide +kernel) (pa_cons
          (pe_lc (own := [("letter", 1)]) (g := gName 1) (tt := tYes) rfl scIsName.nd (pi_str (pv 0))
            (blkOk_by (own := [("letter", 1)]) (N := ["value", "letter"]) (sc := defScope sIsName) (by decide +kernel))
            (fun _ _ _ _ _ => pg_name (i := 1) scIsName.nd rfl (Or.inl rfl)) (fun _ _ _ _ _ => pts_nil)
            (fun _ _ _ _ _ => pe_cmpR op_in_sign (pv 1) (pe_glob (v := .str "abcdefghijklmnopqrstuvwxyz") (by rfl) g1 ⟨_, rfl⟩) rfl)) pa_nil)))))), ?_⟩
    obtain ⟨T, ty, hT⟩ := sh.ty
    rcases hT with ⟨x, rfl, rfl⟩ | ⟨hne, hT⟩
    · have hx := hv x rfl
      have hxl : x.length ≤ sizeLine := szle (Nat.le_trans hx.1 (by decide))
      refine ⟨.str x, rfl, .str x, .ty "str", _, _, true, rfl, .ty "str", ty, kit_ty (by decide +kernel), true, rfl, iteF ?_⟩
      refine ⟨.str x, rfl, x, rfl, hxl, _, _, rfl, rfl, _, rfl, ite2 (fun e => ?_) (fun e => ?_)⟩
      · have e1 : (1 : Int) ≤ x.length := of_decide_eq_true e
        refine ⟨_, _, rfl, rfl, _, rfl, ite2 (fun e2 => ?_) (fun e2 => ?_)⟩
        · have e3 : (x.length : Int) ≤ 8 := of_decide_eq_true e2
          refine ⟨.str x, rfl, x, rfl, fun D nD => ?_⟩
          refine lc_it walk_str (fun i H3 => H3 = upd H D (.lst ((x.cps.toList.take i).map fun c => .bl (inAz c)))) ?_ (fun _ _ _ _ => trivial) (fun i y H3 H4 hi hP hY => ?_) (fun H3 hP => ?_)
          · rfl
          · obtain ⟨rfl, c, hc, rfl⟩ := hY
            subst hP
            refine ⟨rfl, .str ⟨#[c]⟩, rfl, c, _, rfl, rfl, _, upd_same, ?_, ?_⟩
            · rw [List.length_map, List.length_take]
              exact sz1 (by
                have : i < x.length := hi
                omega)
            · have hc2 : x.cps.toList[i]? = some c := by
                rw [Array.getElem?_toList]
                exact hc
              rw [upd_upd, List.take_add_one, hc2, List.map_append]
              rfl
          · subst hP
            refine ⟨D, (x.cps.toList.take x.cps.size).map inAz, rfl, .inl (.inl ?_), ?_⟩
            · rw [upd_same, List.map_map]
              rfl
            · have e4 : x.cps.toList.take x.cps.size = x.cps.toList := List.take_of_length_le (by rw [Array.length_toList]; exact Nat.le_refl _)
              have e5 : ((x.cps.toList.take x.cps.size).map inAz).all id = nameV (.str x) := by
                rw [e4, List.all_map]
                show _ = ((decide (1 ≤ x.length) && decide (x.length ≤ 8)) && x.cps.toList.all inAz)
                rw [decide_eq_true (by omega : 1 ≤ x.length), decide_eq_true (by omega : x.length ≤ 8)]
                rfl
              rw [e5]
              exact q _ (same_new nD)
        · have e3 : ¬ (x.length : Int) ≤ 8 := fun z => e2 (decide_eq_true z)
          have e5 : nameV (.str x) = false := by
            show ((decide (1 ≤ x.length) && decide (x.length ≤ 8)) && x.cps.toList.all inAz) = false
            rw [decide_eq_false (by omega : ¬ x.length ≤ 8), Bool.and_false, Bool.false_and]
          have := q H (Same.refl _)
          rw [e5] at this
          exact this
      · have e1 : ¬ (1 : Int) ≤ x.length := fun z => e (decide_eq_true z)
        have e5 : nameV (.str x) = false := by
          show ((decide (1 ≤ x.length) && decide (x.length ≤ 8)) && x.cps.toList.all inAz) = false
          rw [decide_eq_false (by omega : ¬ 1 ≤ x.length), Bool.false_and, Bool.false_and]
        have := q H (Same.refl _)
        rw [e5] at this
        exact ⟨false, rfl, iteF this⟩
    · have hk : kitB T "str" = some false := by
        rcases hT with rfl | rfl | rfl | rfl | rfl | rfl <;> decide +kernel
      have := q H (Same.refl _)
      rw [nameV_not hne] at this
      exact ⟨v, rfl, v, .ty "str", _, _, false, rfl, .ty "str", ty, kit_ty hk, false, rfl, iteT this⟩
end
end Lw
namespace Lw
open PySem PySem.Spec PyProof.Rows L2 Kv
theorem perm_erase {α : Type} : ∀ (l : List α) (i : Nat) (x : α), l[i]? = some x → (x :: l.eraseIdx i).Perm l
  | [], i, x, h => by simp at h
  | y :: r, 0, x, h => by
    have e : y = x := by simpa using h
    subst e
    exact List.Perm.refl _
  | y :: r, i + 1, x, h => by
    have ih := perm_erase r i x (by simpa using h)
    exact (List.Perm.swap y x (r.eraseIdx i)).trans (ih.cons y)
theorem len_erase {α : Type} {l : List α} {i : Nat} {x : α} (h : l[i]? = some x) : (l.eraseIdx i).length + 1 = l.length :=
  (perm_erase l i x h).length_eq
theorem seqIx {d : Int} {n : Nat} (h0 : 0 ≤ d) (h1 : d < n) : seqIndex? d n = some d.toNat := by
  unfold seqIndex?
  simp only [show ¬ d < 0 by omega, if_false]
  simp [h0, h1]
/-- one letter each -/
theorem join_az : ∀ ys : List Str, (∀ y ∈ ys, ∃ c, c ∈ az ∧ y = ⟨#[c]⟩) →
    (Txt.join "" ys).length = ys.length ∧ ∀ c ∈ (Txt.join "" ys).cps.toList, c ∈ az := by
  intro ys hy
  have e : (Txt.join "" ys).cps.toList = (ys.map TL.tl).flatten := by
    rw [TL.join_eq]
    show TL.tl (Str.join _ _) = _
    rw [TL.tl_join]
    exact joinL_nil _
  refine ⟨?_, fun c hc => ?_⟩
  · rw [Kv.len_list, e]
    clear e
    induction ys with
    | nil => rfl
    | cons y r ih =>
      obtain ⟨c, _, h1⟩ := hy y (List.mem_cons_self ..)
      have h2 := ih fun z hz => hy z (List.mem_cons_of_mem _ hz)
      simp only [List.map_cons, List.flatten_cons, List.length_append, List.length_cons, h2]
      have h3 : (TL.tl y).length = 1 := by
        rw [h1]
        rfl
      omega
  · rw [e] at hc
    obtain ⟨l, hl, hcl⟩ := List.mem_flatten.mp hc
    obtain ⟨y, hm, rfl⟩ := List.mem_map.mp hl
    obtain ⟨d, hd, rfl⟩ := hy y hm
    have : c = d := by simpa [TL.tl] using hcl
    rw [this]
    exact hd
theorem name_sm {x : Str} (h : nameV (.str x) = true) : Sm 8 x := by
  have h1 : ((decide (1 ≤ x.length) && decide (x.length ≤ 8)) && x.cps.toList.all inAz) = true := h
  simp only [Bool.and_eq_true, decide_eq_true_eq, List.all_eq_true] at h1
  refine ⟨h1.1.2, fun c hc => ?_⟩
  have h2 := of_decide_eq_true (h1.2 c hc)
  have : ∀ z ∈ az, z < 128 := by decide +kernel
  exact this c h2
section
variable {P : Program} {w : World} {K : PySem.W.Frag} {mg : Str → Option Value} {base : Heap}
/-- what len of a list or tuple asks -/
def rLenS (K : PySem.W.Frag) : List V → Hp → VK → Prop := fun xs H Q => ∃ p ys, xs = [.ref p] ∧ (SqL K H p ys ∨ SqT K H p ys) ∧ Q (.int ys.length) H
theorem scMixed : FnScope ["_law_pot_here", "_law_some", "_law_left", "_law_turn"] ["_law_pot_here", "_law_some"] (defScope sMixed) :=
  ⟨rfl, rfl, rfl, by decide +kernel, rfl, by decide +kernel, by decide +kernel⟩
def spMixed (K : PySem.W.Frag) : Sp := fun vs H Q _ => ∃ (p b : Addr) (xs : List V), vs = [.ref p, .ref b] ∧ PotAt H p ∧ SqL K H b xs ∧ xs.length ≤ 100 ∧
  ∀ H' D (ys : List V), PotAt H' p → But p H H' → H D = none → D ≠ p → H' D = some (.lst ys) → ys.Perm xs → Q (.ref D) H'
theorem ok_mixed {f fD : Addr} {fd fdD : FuncData} {k : Nat} (F : Fun K "_law_mixed" "_law_mixed" sMixed f fd)
    (FD : Fun K "_law_draw" "_law_draw" sDraw fD fdD) (bD : Binds K fdD ["_law_pot_here", "_law_many"] [])
    (gD : mg "_law_draw" = some (.ref fD)) (md : mg "divmod" = none) (mr : mg "range" = none) (ml : mg "len" = none) (mL : mg "list" = none) :
    FnOk P w K mg base CX0 (k + 2) f fd ["_law_pot_here", "_law_some"] (spMixed K) := by
  have GD : FnOk P w K mg base CX0 (k + 1) fD fdD ["_law_pot_here", "_law_many"] spDraw := ok_draw FD md
  refine F.ok scMixed (fun vs H Q E h => ?_) (fun cdv A outer s H vs Q E hr h => ?_)
  · obtain ⟨a, b, xs, rfl, _⟩ := h
    rfl
  · obtain ⟨p, b, xs, rfl, hp, hb, hx, q⟩ := h
    refine ⟨_, pss_cons (ps_set (i := 2) scMixed.nd rfl (.inr rfl) (pe_callTy call_list_of (by rfl) mL (by decide +kernel) (pa_cons (pv 1) pa_nil)))
      (pss_one (ps_ret (pe_lc (own := [("_law_turn", 3)]) (g := gName 3) (tt := tYes)
        (te := tBM K "list" rPopAt (tVar 2) (tCons (tCall spDraw [] E0 (tCons (tVar 0) (tCons (tCB (rLenS K) (tCons (tVar 2) tNil)) tNil))) tNil)) rfl scMixed.nd
        (pi_range1 rfl mr (pa_cons (pe_callB call_len_seq (by rfl) ml PySem.boot_len (pa_cons (pv 1) pa_nil)) pa_nil))
        (blkOk_by (own := [("_law_turn", 3)]) (N := ["_law_pot_here", "_law_some", "_law_left", "_law_turn"]) (sc := defScope sMixed) (by decide +kernel))
        (fun _ _ _ _ _ => pg_name (i := 3) scMixed.nd rfl (Or.inl rfl)) (fun _ _ _ _ _ => pts_nil)
        (fun _ _ _ _ _ => pe_bm PySem.F.plainAttrs_list PySem.F.slot_list_pop PySem.F.type_list_pop mt_popAt (pv 2)
          (pa_cons (pe_call GD hr (by rfl) gD FD.kp bD .nil pass0 (pa_cons (pv 0) (pa_cons (pe_callB call_len_seq (by rfl) ml PySem.boot_len (pa_cons (pv 2) pa_nil)) pa_nil))) pa_nil))))), ?_⟩
    refine ⟨.ref b, rfl, b, xs, rfl, .inl hb, fun l nl => ?_⟩
    have nlp : p ≠ l := by
      obtain ⟨_, _, e, _⟩ := hp
      exact ne_of_none e nl
    have s1 : Same H (upd H l (.lst xs)) := same_new nl
    refine ⟨.ref b, rfl, b, xs, rfl, .inl (s1.seq hb), _, rfl, by omega, by omega, fun D nD => ?_⟩
    have nDp : p ≠ D := by
      obtain ⟨_, _, e, _⟩ := hp
      exact ne_of_none (s1 _ _ e) nD
    have nDl : l ≠ D := fun z => by
      rw [← z, upd_same] at nD
      cases nD
    have nD0 : H D = none := s1.free nD
    refine lc_range (lo := 0) (n := (xs.length : Int).toNat) (fun i H3 => ∃ out rest : List V, H3 D = some (.lst out) ∧ H3 l = some (.lst rest) ∧ (out ++ rest).Perm xs ∧ out.length = i ∧ PotAt H3 p ∧ But p H H3)
      ⟨[], xs, upd_same, by rw [upd_ne nDl, upd_same], List.Perm.refl _, rfl, (hp.same s1).same (same_new nD), (But.of_same s1).new nD⟩ (fun i H3 hi hP => ?_) (fun H3 hP => ?_)
    · obtain ⟨out, rest, e1, e2, e3, e4, e5, e6⟩ := hP
      have le := e3.length_eq
      rw [List.length_append] at le
      have hi2 : i < xs.length := by omega
      refine ⟨rfl, .ref l, rfl, .inl ⟨rfl, _, .inl (.inl e2)⟩, .ref p, rfl, .ref l, rfl, l, rest, rfl, .inl (.inl (.inl e2)), p, _, rfl, e5, by omega, by omega, fun H4 d d0 d1 hp4 s4 => ?_⟩
      have hd : d.toNat < rest.length := by omega
      have ey : rest[d.toNat]? = some rest[d.toNat] := List.getElem?_eq_getElem hd
      have e2' := s4 _ _ nlp.symm e2
      refine ⟨l, rest, d, d.toNat, rest[d.toNat], rfl, rfl, e2', by omega, by omega, seqIx d0 d1, ey, ?_⟩
      refine ⟨out, by rw [upd_ne nDl.symm]; exact s4 _ _ nDp.symm e1, sz1 (by omega), ?_⟩
      refine ⟨out ++ [rest[d.toNat]], rest.eraseIdx d.toNat, upd_same, by rw [upd_ne nDl, upd_same], ?_, ?_, ?_, ?_⟩
      · rw [List.append_assoc]
        exact ((perm_erase rest _ _ ey).append_left out).trans e3
      · rw [List.length_append, e4]
        rfl
      · obtain ⟨r, g, e, h⟩ := hp4
        exact ⟨r, g, by rw [upd_ne nDp, upd_ne nlp]; exact e, h⟩
      · intro c o nc hc
        rw [upd_ne (ne_of_none hc nD0), upd_ne (ne_of_none hc nl)]
        exact s4 _ _ nc (e6 _ _ nc hc)
    · obtain ⟨out, rest, e1, e2, e3, e4, e5, e6⟩ := hP
      have le := e3.length_eq
      rw [List.length_append] at le
      have hr0 : rest = [] := List.eq_nil_of_length_eq_zero (by omega)
      rw [hr0, List.append_nil] at e3
      exact q _ D out e5 e6 nD0 nDp.symm e1 e3
theorem scName : FnScope ["_law_pot_here", "_law_letters", "_law_turn"] ["_law_pot_here"] (defScope sName) :=
  ⟨rfl, rfl, rfl, by decide +kernel, rfl, by decide +kernel, by decide +kernel⟩
def spNm : Sp := fun vs H Q _ => ∃ p : Addr, vs = [.ref p] ∧ PotAt H p ∧
  ∀ H' (x : Str), PotAt H' p → But p H H' → nameV (.str x) = true → Q (.str x) H'
theorem ok_name {f fD : Addr} {fd fdD : FuncData} {k : Nat} (F : Fun K "_law_name" "_law_name" sName f fd)
    (FD : Fun K "_law_draw" "_law_draw" sDraw fD fdD) (bD : Binds K fdD ["_law_pot_here", "_law_many"] [])
    (gD : mg "_law_draw" = some (.ref fD)) (md : mg "divmod" = none) (mr : mg "range" = none) :
    FnOk P w K mg base CX0 (k + 2) f fd ["_law_pot_here"] spNm := by
  have GD : FnOk P w K mg base CX0 (k + 1) fD fdD ["_law_pot_here", "_law_many"] spDraw := ok_draw FD md
  refine F.ok scName (fun vs H Q E h => ?_) (fun cdv A outer s H vs Q E hr h => ?_)
  · obtain ⟨a, rfl, _⟩ := h
    rfl
  · obtain ⟨p, rfl, hp, q⟩ := h
    refine ⟨_, pss_cons (ps_set (i := 1) scName.nd rfl (.inr rfl) pe_str)
      (pss_one (ps_ret (pe_join pe_str (pe_lc (own := [("_law_turn", 2)]) (g := gName 2) (tt := tYes) rfl scName.nd
        (pi_range1 rfl mr (pa_cons (pe_ix ix_list (pe_lst (pa_cons pe_int (pa_cons pe_int (pa_cons pe_int pa_nil))))
          (pe_call GD hr (by rfl) gD FD.kp bD .nil pass0 (pa_cons (pv 0) (pa_cons pe_int pa_nil))) (fun _ _ => rfl)) pa_nil))
        (blkOk_by (own := [("_law_turn", 2)]) (N := ["_law_pot_here", "_law_letters", "_law_turn"]) (sc := defScope sName) (by decide +kernel))
        (fun _ _ _ _ _ => pg_name (i := 2) scName.nd rfl (Or.inl rfl)) (fun _ _ _ _ _ => pts_nil)
        (fun _ _ _ _ _ => pe_ix ix_str (pv 1) (pe_call GD hr (by rfl) gD FD.kp bD .nil pass0 (pa_cons (pv 0) (pa_cons pe_int pa_nil))) (fun _ _ => rfl)))))), ?_⟩
    refine ⟨⟨_, rfl⟩, (by decide : 3 ≤ sizeLine), fun l nl => ?_⟩
    have nlp : p ≠ l := by
      obtain ⟨_, _, e, _⟩ := hp
      exact ne_of_none e nl
    refine ⟨.ref p, rfl, p, 3, rfl, hp.same (same_new nl), by decide, by decide, fun H2 d2 b1 b2 hp2 s2 => ?_⟩
    have hl : H2 l = some (.lst [.int 1, .int 2, .int 8]) := s2 _ _ nlp.symm upd_same
    obtain ⟨n, hn, n0, n1⟩ : ∃ n : Int, atI [V.int 1, V.int 2, V.int 8] d2 = some (.int n) ∧ 1 ≤ n ∧ n ≤ 8 := by
      have : d2 = 0 ∨ d2 = 1 ∨ d2 = 2 := by omega
      rcases this with rfl | rfl | rfl
      · exact ⟨1, rfl, by decide, by decide⟩
      · exact ⟨2, rfl, by decide, by decide⟩
      · exact ⟨8, rfl, by decide, by decide⟩
    refine ⟨l, _, d2, .int n, rfl, rfl, .inl (.inl hl), hn, n, rfl, by omega, by omega, fun D nD => ?_⟩
    have nDp : p ≠ D := by
      obtain ⟨_, _, e, _⟩ := hp2
      exact ne_of_none e nD
    have bt : But p H H2 := (But.of_same (same_new nl)).trans s2
    refine lc_range (lo := 0) (n := n.toNat) (fun i H3 => ∃ ys : List Str, H3 D = some (.lst (ys.map V.str)) ∧ ys.length = i ∧ (∀ y ∈ ys, ∃ c, c ∈ az ∧ y = ⟨#[c]⟩) ∧ PotAt H3 p ∧ But p H2 H3)
      ⟨[], upd_same, rfl, fun y hy => (nomatch hy), hp2.same (same_new nD), But.of_same (same_new nD)⟩ (fun i H3 hi hP => ?_) (fun H3 hP => ?_)
    · obtain ⟨ys, e1, e2, e3, e4, e5⟩ := hP
      refine ⟨rfl, _, rfl, .ref p, rfl, p, 26, rfl, e4, by decide, by decide, fun H4 d c1 c2 hp4 s4 => ?_⟩
      obtain ⟨c, hc, hm⟩ := atI_some (L := ("abcdefghijklmnopqrstuvwxyz" : Str).cps.toList) c1 (by
        have : ("abcdefghijklmnopqrstuvwxyz" : Str).cps.toList.length = 26 := by decide +kernel
        omega)
      refine ⟨_, d, c, rfl, rfl, (by decide +kernel : ("abcdefghijklmnopqrstuvwxyz" : Str).length ≤ sizeLine), hc, _, s4 _ _ nDp.symm e1, ?_, ?_⟩
      · rw [List.length_map]
        exact sz1 (by omega)
      · refine ⟨ys ++ [⟨#[c]⟩], ?_, ?_, ?_, ?_, ?_⟩
        · rw [upd_same, List.map_append]
          rfl
        · rw [List.length_append, e2]
          rfl
        · intro y hy
          rcases List.mem_append.mp hy with z | z
          · exact e3 y z
          · exact ⟨c, hm, List.mem_singleton.mp z⟩
        · obtain ⟨r, g, e, h⟩ := hp4
          exact ⟨r, g, by rw [upd_ne nDp]; exact e, h⟩
        · intro b o nb hb
          rw [upd_ne (ne_of_none hb nD)]
          exact s4 b o nb (e5 b o nb hb)
    · obtain ⟨ys, e1, e2, e3, e4, e5⟩ := hP
      obtain ⟨j1, j2⟩ := join_az ys e3
      refine ⟨_, D, ys, rfl, rfl, .inl (.inl (.inl e1)), ?_, ?_⟩
      · have : ∀ zs : List Str, (∀ y ∈ zs, ∃ c, c ∈ az ∧ y = ⟨#[c]⟩) → (zs.map (·.length)).sum = zs.length := by
          intro zs
          induction zs with
          | nil => intro _; rfl
          | cons y r ih =>
            intro hy
            obtain ⟨c, _, h1⟩ := hy y (List.mem_cons_self ..)
            have h2 := ih fun z hz => hy z (List.mem_cons_of_mem _ hz)
            simp only [List.map_cons, List.sum_cons, List.length_cons, h2]
            have h3 : y.length = 1 := by
              rw [h1]
              rfl
            omega
        have h1 := this ys e3
        have h2 : ("" : Str).length = 0 := by decide +kernel
        rw [h2]
        omega
      · refine q _ _ e4 (bt.trans e5) ?_
        show ((decide (1 ≤ (Txt.join "" ys).length) && decide ((Txt.join "" ys).length ≤ 8)) && (Txt.join "" ys).cps.toList.all inAz) = true
        rw [decide_eq_true (by omega : 1 ≤ (Txt.join "" ys).length), decide_eq_true (by omega : (Txt.join "" ys).length ≤ 8), Bool.true_and, Bool.true_and, List.all_eq_true]
        intro c hc
        exact decide_eq_true (j2 c hc)
end
end Lw
/-! Rows of a hierarchy: names and superclasses. -/
namespace Kv
open PySem PySem.Spec PyProof.Rows L2
abbrev Row2 := Str × List Str
def fsts (rows : List Row2) : List Str := rows.map (·.1)
/-- each row is right behind the rows ahead of it -/
def Valid (rows : List Row2) : Prop := ∀ (i : Nat) (n : Str) (ss : List Str), rows[i]? = some (n, ss) →
  nameV (.str n) = true ∧ n ∉ fsts (rows.take i) ∧ ss.Nodup ∧ ∀ s ∈ ss, s ∈ fsts (rows.take i)
theorem valid_nil : Valid [] := fun i n ss h => by simp at h
theorem Valid.snoc {rows : List Row2} {n : Str} {ss : List Str} (v : Valid rows) (h1 : nameV (.str n) = true)
    (h2 : n ∉ fsts rows) (h3 : ss.Nodup) (h4 : ∀ s ∈ ss, s ∈ fsts rows) : Valid (rows ++ [(n, ss)]) := by
  intro i m ts h
  by_cases hi : i < rows.length
  · rw [List.getElem?_append_left hi] at h
    rw [List.take_append_of_le_length (by omega)]
    exact v i m ts h
  · have hi2 : i = rows.length := by
      have := (List.getElem?_eq_some_iff.mp h).1
      rw [List.length_append] at this
      have h1 : [(n, ss)].length = 1 := rfl
      omega
    subst hi2
    rw [List.getElem?_append_right (Nat.le_refl _), Nat.sub_self] at h
    cases h
    rw [List.take_append_of_le_length (Nat.le_refl _), List.take_length]
    exact ⟨h1, h2, h3, h4⟩
def RowAt (H : Hp) (v : V) (r : Row2) : Prop := ∃ t s, v = .ref t ∧ H t = some (.tup [.str r.1, .ref s]) ∧ H s = some (.tup (r.2.map V.str))
def RowsAre (H : Hp) : List V → List Row2 → Prop := Paired (RowAt H)
theorem RowAt.same {H H' : Hp} (s : Same H H') {v : V} {r : Row2} (h : RowAt H v r) : RowAt H' v r := by
  obtain ⟨t, u, e, h1, h2⟩ := h
  exact ⟨t, u, e, s _ _ h1, s _ _ h2⟩
theorem RowsAre.same {H H' : Hp} (s : Same H H') {vs : List V} {rows : List Row2} (h : RowsAre H vs rows) : RowsAre H' vs rows :=
  Paired.mapP h fun _ _ z => z.same s
/-- what is no list stays through a draw -/
theorem tup_but {H H' : Hp} {p t : Addr} {xs : List V} (hp : PotAt H p) (b : But p H H') (h : H t = some (.tup xs)) : H' t = some (.tup xs) := by
  obtain ⟨r, g, e, _⟩ := hp
  exact b _ _ (ne_of h e (by intro z; cases z)) h
theorem RowAt.but {H H' : Hp} {p : Addr} (hp : PotAt H p) (b : But p H H') {v : V} {r : Row2} (h : RowAt H v r) : RowAt H' v r := by
  obtain ⟨t, u, e, h1, h2⟩ := h
  exact ⟨t, u, e, tup_but hp b h1, tup_but hp b h2⟩
theorem RowsAre.but {H H' : Hp} {p : Addr} (hp : PotAt H p) (b : But p H H') {vs : List V} {rows : List Row2} (h : RowsAre H vs rows) : RowsAre H' vs rows :=
  Paired.mapP h fun _ _ z => z.but hp b
theorem RowsAre.length {H : Hp} {vs : List V} {rows : List Row2} (h : RowsAre H vs rows) : vs.length = rows.length := Paired.length h
theorem RowsAre.snoc {H : Hp} : ∀ {vs : List V} {rows : List Row2} {v : V} {r : Row2}, RowsAre H vs rows → RowAt H v r → RowsAre H (vs ++ [v]) (rows ++ [r])
  | _, _, _, _, .nil, h => .cons h .nil
  | _, _, _, _, .cons a b, h => .cons a (RowsAre.snoc b h)
theorem RowsAre.get {H : Hp} : ∀ {vs : List V} {rows : List Row2} {i : Nat} {v : V}, RowsAre H vs rows → vs[i]? = some v → ∃ r, rows[i]? = some r ∧ RowAt H v r
  | _, _, _, _, .nil, e => by simp at e
  | _, _, 0, _, .cons a _, e => by
    simp at e
    subst e
    exact ⟨_, rfl, a⟩
  | _, _, i + 1, v, .cons _ b, e => by
    obtain ⟨r, h1, h2⟩ := RowsAre.get (i := i) (v := v) b (by simpa using e)
    exact ⟨r, by simpa using h1, h2⟩
theorem RowAt.wr {H : Hp} {R : Addr} {xs : List V} {o : HO} (h : H R = some (.lst xs)) {v : V} {r : Row2} (a : RowAt H v r) : RowAt (upd H R o) v r := by
  obtain ⟨t, u, e, h1, h2⟩ := a
  exact ⟨t, u, e, by rw [upd_ne (ne_of h1 h (by intro z; cases z))]; exact h1, by rw [upd_ne (ne_of h2 h (by intro z; cases z))]; exact h2⟩
theorem RowsAre.wr {H : Hp} {R : Addr} {xs : List V} {o : HO} (h : H R = some (.lst xs)) {vs : List V} {rows : List Row2} (a : RowsAre H vs rows) : RowsAre (upd H R o) vs rows :=
  Paired.mapP a fun _ _ z => z.wr h
theorem fsts_snoc (rows : List Row2) (n : Str) (ss : List Str) : fsts (rows ++ [(n, ss)]) = fsts rows ++ [n] := by
  unfold fsts
  rw [List.map_append]
  rfl
/-! ### permuted texts -/
def unStr : V → Option Str
  | .str x => some x
  | _ => none
theorem unStr_map : ∀ ns : List Str, (ns.map V.str).filterMap unStr = ns
  | [] => rfl
  | n :: r => by
    show n :: (r.map V.str).filterMap unStr = n :: r
    rw [unStr_map r]
theorem map_unStr : ∀ ys : List V, (∀ y ∈ ys, ∃ x, y = .str x) → ys = (ys.filterMap unStr).map V.str
  | [], _ => rfl
  | y :: r, h => by
    obtain ⟨x, rfl⟩ := h y (List.mem_cons_self ..)
    have ih := map_unStr r fun z hz => h z (List.mem_cons_of_mem _ hz)
    show V.str x :: r = V.str x :: (r.filterMap unStr).map V.str
    rw [← ih]
theorem perm_strs {ys : List V} {ns : List Str} (h : ys.Perm (ns.map V.str)) : ∃ ms : List Str, ys = ms.map V.str ∧ ms.Perm ns := by
  refine ⟨ys.filterMap unStr, map_unStr ys fun y hy => ?_, ?_⟩
  · obtain ⟨x, _, e⟩ := List.mem_map.mp (h.mem_iff.mp hy)
    exact ⟨x, e.symm⟩
  · have := h.filterMap unStr
    rw [unStr_map] at this
    exact this
/-! ### letters that are left -/
theorem inV_strs (y : Str) : ∀ xs : List Str, inV (.str y) (xs.map V.str) = decide (y ∈ xs)
  | [] => rfl
  | x :: r => by
    have ih := inV_strs y r
    show (eqV (.str x) (.str y) || inV (.str y) (r.map V.str)) = _
    rw [ih]
    show ((x == y) || decide (y ∈ r)) = decide (y ∈ x :: r)
    by_cases e : x = y
    · subst e
      simp
    · have e2 : (x == y) = false := beq_eq_false_iff_ne.mpr e
      rw [e2, Bool.false_or]
      by_cases h : y ∈ r
      · rw [decide_eq_true h, decide_eq_true (List.mem_cons_of_mem _ h)]
      · rw [decide_eq_false h, decide_eq_false (fun z => by
          rcases List.mem_cons.mp z with z | z
          · exact e z.symm
          · exact h z)]
theorem flats : ∀ xs : List Str, (xs.map V.str).all flatV = true
  | [] => rfl
  | x :: r => by
    show (flatV (.str x) && (r.map V.str).all flatV) = true
    rw [flats r]
    rfl
theorem filter_one {α : Type} [DecidableEq α] (f : α) : ∀ {L : List α}, L.Nodup → L.length ≤ (L.filter fun y => decide (y ≠ f)).length + 1
  | [], _ => Nat.zero_le _
  | x :: r, h => by
    obtain ⟨h1, h2⟩ := List.nodup_cons.mp h
    by_cases e : x = f
    · subst e
      have e2 : r.filter (fun y => decide (y ≠ x)) = r := List.filter_eq_self.mpr fun y hy => decide_eq_true fun z => h1 (z ▸ hy)
      rw [List.filter_cons_of_neg (by simp), e2]
      exact Nat.le_refl _
    · have ih := filter_one f h2
      rw [List.filter_cons_of_pos (by simpa using e), List.length_cons, List.length_cons]
      omega
theorem filter_left {α : Type} [DecidableEq α] : ∀ (F : List α) {L : List α}, L.Nodup → L.length ≤ (L.filter fun y => decide (y ∉ F)).length + F.length
  | [], L, h => by
    have : L.filter (fun y => decide (y ∉ ([] : List α))) = L := List.filter_eq_self.mpr fun y _ => by simp
    rw [this]
    exact Nat.le_add_right _ _
  | f :: F, L, h => by
    have ih := filter_left F h
    have h2 : (L.filter fun y => decide (y ∉ F)).Nodup := h.filter _
    have h3 := filter_one f h2
    have e : (L.filter fun y => decide (y ∉ F)).filter (fun y => decide (y ≠ f)) = L.filter fun y => decide (y ∉ f :: F) := by
      rw [List.filter_filter]
      refine List.filter_congr fun y _ => ?_
      by_cases a : y = f <;> by_cases b : y ∈ F <;> simp [a, b]
    rw [e] at h3
    rw [List.length_cons]
    omega
def letters : List Str := az.map fun c => ⟨#[c]⟩
theorem letters_nodup : letters.Nodup := by decide +kernel
theorem letters_len : letters.length = 26 := by decide +kernel
theorem letter_name : ∀ y ∈ letters, nameV (.str y) = true := by decide +kernel
theorem cut_take {xs : List V} {k : Nat} : cutV xs none (some (k : Int)) = xs.take k := by
  unfold cutV
  rw [HT.sIx_none, HT.sIx_nat, Nat.sub_zero, List.drop_zero]
  by_cases h : k ≤ xs.length
  · rw [Nat.min_eq_left h]
  · rw [Nat.min_eq_right (by omega), List.take_length, List.take_of_length_le (by omega)]
end Kv
namespace Lw
open PySem PySem.Spec PyProof.Rows L2 Kv
abbrev NNames : List Str := ["_law_pot_here", "_law_many", "_law_found", "_law_turn", "_law_drawn", "_law_free", "_law_letter"]
theorem scNames : FnScope NNames ["_law_pot_here", "_law_many"] (defScope sNames) :=
  ⟨rfl, rfl, rfl, by decide +kernel, rfl, by decide +kernel, by decide +kernel⟩
abbrev NKinds : List Str := ["_law_pot_here", "_law_most", "_law_rows", "_law_label", "_law_many", "_law_row"]
theorem scKinds : FnScope NKinds ["_law_pot_here", "_law_most"] (defScope sKinds) :=
  ⟨rfl, rfl, rfl, by decide +kernel, rfl, by decide +kernel, by decide +kernel⟩
section
variable {P : Program} {w : World} {K : PySem.W.Frag} {mg : Str → Option Value} {base : Heap}
def spNames : Sp := fun vs H Q _ => ∃ (p : Addr) (m : Nat), vs = [.ref p, .int m] ∧ PotAt H p ∧ m ≤ 25 ∧
  ∀ H' D (xs : List Str), PotAt H' p → But p H H' → H D = none → D ≠ p → H' D = some (.lst (xs.map V.str)) → xs.length = m → xs.Nodup →
    (∀ x ∈ xs, nameV (.str x) = true) → Q (.ref D) H'
theorem ok_names {f fN : Addr} {fd fdN : FuncData} {k : Nat} (F : Fun K "_law_names" "_law_names" sNames f fd)
    (FN : Fun K "_law_name" "_law_name" sName fN fdN) (bN : Binds K fdN ["_law_pot_here"] []) (gN : mg "_law_name" = some (.ref fN))
    (GN : FnOk P w K mg base CX0 (k + 2) fN fdN ["_law_pot_here"] spNm) (mr : mg "range" = none) :
    FnOk P w K mg base CX0 (k + 3) f fd ["_law_pot_here", "_law_many"] spNames := by
  refine F.ok scNames (fun vs H Q E h => ?_) (fun cdv A outer s H vs Q E hr h => ?_)
  · obtain ⟨a, m, rfl, _⟩ := h
    rfl
  · obtain ⟨p, m, rfl, hp, hm, q⟩ := h
    refine ⟨_, pss_cons (ps_set (i := 2) scNames.nd rfl (.inr rfl) (pe_lst pa_nil))
      (pss_cons (ps_for PassesOwn.never rfl (pi_range1 rfl mr (pa_cons (pv 1) pa_nil)) (pg_name (i := 3) scNames.nd rfl (.inl rfl))
        (pss_cons (ps_set (i := 4) scNames.nd rfl (.inl rfl) (pe_call GN hr (by rfl) gN FN.kp bN .nil pass0 (pa_cons (pv 0) pa_nil)))
        (pss_cons (ps_setLc (i := 5) (own := [("_law_letter", 6)]) (g := gName 6) (tt := tTest (tOp (rIn K true) (tVar 6) (tVar 2))) (te := tVar 6) rfl scNames.nd rfl rfl
            (sw_true rfl rfl rfl (by decide +kernel)) (pi_str pe_str)
            (blkOk_by (own := [("_law_letter", 6)]) (N := NNames) (sc := defScope sNames) (by decide +kernel))
            (fun _ _ _ _ _ => pg_name (i := 6) scNames.nd rfl (Or.inl rfl)) (fun _ _ _ _ _ => pts_one (pt_cmpR op_notIn_seq (pv 6) (pv 2) (by rfl)))
            (fun _ _ _ _ _ => pv 6))
        (pss_one (ps_expr (pe_bm PySem.F.plainAttrs_list PySem.F.slot_list_append PySem.F.type_list_append mt_append (pv 2)
          (pa_cons (pe_ifExp (pt_cmpR op_in_seq (pv 4) (pv 2) (by rfl)) (pe_ix ix_list (pv 5) pe_int (fun _ _ => rfl)) (pv 4)) pa_nil)))))))
      (pss_one (ps_ret (pv 2)))), ?_⟩
    refine ⟨(by decide : 0 ≤ sizeLine), fun D nD => ?_⟩
    have nDp : p ≠ D := by
      obtain ⟨_, _, e, _⟩ := hp
      exact ne_of_none e nD
    refine ⟨.int m, rfl, m, rfl, by omega, by omega, ?_⟩
    refine for_range (n := (m : Int).toNat) (fun i σ H3 => ∃ (y3 y4 y5 : Option V) (xs : List Str), σ = [some (.ref p), some (.int m), some (.ref D), y3, y4, y5, none] ∧ H3 D = some (.lst (xs.map V.str)) ∧
      xs.length = i ∧ xs.Nodup ∧ (∀ x ∈ xs, nameV (.str x) = true) ∧ PotAt H3 p ∧ But p H H3)
      ⟨none, none, none, [], rfl, upd_same, rfl, List.nodup_nil, fun x hx => (nomatch hx), hp.same (same_new nD), But.of_same (same_new nD)⟩ (fun i σ H3 hi hP => ?_) (fun σ H3 hP => ?_)
    · obtain ⟨y3, y4, y5, xs, rfl, e1, e2, e3, e4, e5, e6⟩ := hP
      have hi2 : i < m := by omega
      refine ⟨.ref p, rfl, p, rfl, e5, fun H4 x hp4 s4 hx => ?_⟩
      have d4 := s4 _ _ nDp.symm e1
      have b4 : But p H H4 := e6.trans s4
      refine ⟨_, rfl, fun L nL => ?_⟩
      have nLp : p ≠ L := by
        obtain ⟨_, _, e, _⟩ := hp4
        exact ne_of_none e nL
      have nLD : D ≠ L := ne_of_none d4 nL
      refine lc_it walk_str (fun j H5 => H5 = upd H4 L (.lst (((letters.take j).filter fun y => decide (y ∉ xs)).map V.str))) ?_ (fun _ _ _ _ => trivial) (fun j y H5 H6 hj hP hY => ?_) (fun H5 hP => ?_)
      · rfl
      · obtain ⟨rfl, c, hc, rfl⟩ := hY
        subst hP
        have hc2 : letters[j]? = some ⟨#[c]⟩ := by
          unfold letters az
          rw [List.getElem?_map, Array.getElem?_toList, hc]
          rfl
        refine ⟨rfl, .str ⟨#[c]⟩, rfl, .ref D, rfl, D, xs.map V.str, rfl, .inl (.inl (.inl (by rw [upd_ne nLD]; exact d4))), rfl, flats xs, _, rfl, ?_⟩
        show if (!inV (.str ⟨#[c]⟩) (xs.map V.str)) = true then _ else _
        rw [inV_strs]
        by_cases hz : (⟨#[c]⟩ : Str) ∈ xs
        · rw [decide_eq_true hz]
          refine iteF ?_
          rw [List.take_add_one, hc2, List.filter_append]
          show _ = upd H4 L (.lst ((_ ++ [(⟨#[c]⟩ : Str)].filter _).map V.str))
          rw [List.filter_cons_of_neg (by simpa using hz), List.filter_nil, List.append_nil]
        · rw [decide_eq_false hz]
          refine iteT ⟨.str ⟨#[c]⟩, rfl, _, upd_same, ?_, ?_⟩
          · rw [List.length_map]
            refine Nat.lt_of_le_of_lt (List.length_filter_le _ _) ?_
            rw [List.length_take]
            have := letters_len
            exact sz1 (by omega)
          · rw [upd_upd, List.take_add_one, hc2, List.filter_append]
            show _ = upd H4 L (.lst ((_ ++ [(⟨#[c]⟩ : Str)].filter _).map V.str))
            rw [List.filter_cons_of_pos (by simpa using hz), List.filter_nil, List.map_append]
            rfl
      · subst hP
        have e26 : letters.take ("abcdefghijklmnopqrstuvwxyz" : Str).cps.size = letters := by decide +kernel
        have L5 : (upd H4 L (.lst (((letters.take ("abcdefghijklmnopqrstuvwxyz" : Str).cps.size).filter fun y => decide (y ∉ xs)).map V.str))) D = some (.lst (xs.map V.str)) := by
          rw [upd_ne nLD]
          exact d4
        have p5 : PotAt (upd H4 L (.lst (((letters.take ("abcdefghijklmnopqrstuvwxyz" : Str).cps.size).filter fun y => decide (y ∉ xs)).map V.str))) p := hp4.same (same_new nL)
        refine ⟨.ref D, rfl, .inl ⟨rfl, _, .inl (.inl L5)⟩, .str x, rfl, .ref D, rfl, D, xs.map V.str, rfl, .inl (.inl (.inl L5)), rfl, flats xs, _, rfl, ?_⟩
        show if inV (.str x) (xs.map V.str) = true then _ else _
        rw [inV_strs]
        have fin : ∀ y : Str, y ∉ xs → nameV (.str y) = true → ∃ (y3' y4' y5' : Option V) (xs' : List Str), ([some (.ref p), some (.int m), some (.ref D), some (.int (0 + (i : Int))), some (.str x), some (.ref L), none] : List (Option V)) = [some (.ref p), some (.int m), some (.ref D), y3', y4', y5', none] ∧
            (upd (upd H4 L (.lst (((letters.take ("abcdefghijklmnopqrstuvwxyz" : Str).cps.size).filter fun y => decide (y ∉ xs)).map V.str))) D (.lst (xs.map V.str ++ [.str y]))) D = some (.lst (xs'.map V.str)) ∧
            xs'.length = i + 1 ∧ xs'.Nodup ∧ (∀ x ∈ xs', nameV (.str x) = true) ∧ PotAt (upd (upd H4 L (.lst (((letters.take ("abcdefghijklmnopqrstuvwxyz" : Str).cps.size).filter fun y => decide (y ∉ xs)).map V.str))) D (.lst (xs.map V.str ++ [.str y]))) p ∧
            But p H (upd (upd H4 L (.lst (((letters.take ("abcdefghijklmnopqrstuvwxyz" : Str).cps.size).filter fun y => decide (y ∉ xs)).map V.str))) D (.lst (xs.map V.str ++ [.str y]))) := by
          intro y hy1 hy2
          refine ⟨_, _, _, xs ++ [y], rfl, ?_, ?_, ?_, ?_, ?_, ?_⟩
          · rw [upd_same, List.map_append]
            rfl
          · rw [List.length_append, e2]
            rfl
          · rw [List.nodup_append]
            refine ⟨e3, List.pairwise_singleton _ _, fun a ha b hb => ?_⟩
            rw [List.mem_singleton.mp hb]
            rintro rfl
            exact hy1 ha
          · intro z hz
            rcases List.mem_append.mp hz with z1 | z1
            · exact e4 z z1
            · rw [List.mem_singleton.mp z1]
              exact hy2
          · obtain ⟨r, g, e, h⟩ := p5
            exact ⟨r, g, by rw [upd_ne nDp]; exact e, h⟩
          · intro b o nb hb
            rw [upd_ne (ne_of_none hb nD)]
            exact same_new nL _ _ (b4 b o nb hb)
        have szD : (xs.map V.str).length < sizeLine := by
          rw [List.length_map]
          exact sz1 (by omega)
        by_cases hz : x ∈ xs
        · rw [decide_eq_true hz]
          have lf := filter_left xs letters_nodup
          rw [letters_len] at lf
          obtain ⟨y, r, hyr⟩ : ∃ y r, (letters.filter fun y => decide (y ∉ xs)) = y :: r := by
            cases hc : letters.filter fun y => decide (y ∉ xs) with
            | nil =>
              rw [hc] at lf
              have : ([] : List Str).length = 0 := rfl
              omega
            | cons y r => exact ⟨y, r, rfl⟩
          have hym : y ∈ letters ∧ decide (y ∉ xs) = true := List.mem_filter.mp (by rw [hyr]; exact List.mem_cons_self ..)
          have F5 : atI (((letters.take ("abcdefghijklmnopqrstuvwxyz" : Str).cps.size).filter fun y => decide (y ∉ xs)).map V.str) 0 = some (.str y) := by
            rw [e26, hyr]
            exact atI_nat (j := 0) rfl
          refine iteT ⟨.ref L, rfl, L, _, 0, .str y, rfl, rfl, .inl (.inl upd_same), F5, D, _, _, rfl, rfl, L5, szD, ?_⟩
          exact fin y (of_decide_eq_true hym.2) (letter_name y hym.1)
        · rw [decide_eq_false hz]
          refine iteF ⟨.str x, rfl, D, _, _, rfl, rfl, L5, szD, ?_⟩
          exact fin x hz hx
    · obtain ⟨y3, y4, y5, xs, rfl, e1, e2, e3, e4, e5, e6⟩ := hP
      exact ⟨.ref D, rfl, q _ D xs e5 e6 nD nDp.symm e1 (by omega) e3 e4⟩
end
end Lw
namespace Lw
open PySem PySem.Spec PyProof.Rows L2 Kv
section
variable {P : Program} {w : World} {K : PySem.W.Frag} {mg : Str → Option Value} {base : Heap}
def spKinds : Sp := fun vs H Q _ => ∃ (p : Addr) (most : Nat), vs = [.ref p, .int most] ∧ PotAt H p ∧ 1 ≤ most ∧ most ≤ 20 ∧
  ∀ H' R (us : List V) (rows : List Row2), PotAt H' p → But p H H' → H R = none → R ≠ p → H' R = some (.lst us) → RowsAre H' us rows → Valid rows →
    1 ≤ rows.length → rows.length ≤ most → Q (.ref R) H'
theorem ok_kinds {f fD fN fM : Addr} {fd fdD fdN fdM : FuncData} {k : Nat} (F : Fun K "_law_kinds" "_law_kinds" sKinds f fd)
    (FD : Fun K "_law_draw" "_law_draw" sDraw fD fdD) (bD : Binds K fdD ["_law_pot_here", "_law_many"] []) (gD : mg "_law_draw" = some (.ref fD))
    (FN : Fun K "_law_names" "_law_names" sNames fN fdN) (bN : Binds K fdN ["_law_pot_here", "_law_many"] []) (gN : mg "_law_names" = some (.ref fN))
    (FM : Fun K "_law_mixed" "_law_mixed" sMixed fM fdM) (bM : Binds K fdM ["_law_pot_here", "_law_some"] []) (gM : mg "_law_mixed" = some (.ref fM))
    (GD : FnOk P w K mg base CX0 (k + 1) fD fdD ["_law_pot_here", "_law_many"] spDraw)
    (GN : FnOk P w K mg base CX0 (k + 3) fN fdN ["_law_pot_here", "_law_many"] spNames)
    (GM : FnOk P w K mg base CX0 (k + 2) fM fdM ["_law_pot_here", "_law_some"] (spMixed K)) (mT : mg "tuple" = none) :
    FnOk P w K mg base CX0 (k + 4) f fd ["_law_pot_here", "_law_most"] spKinds := by
  refine F.ok scKinds (fun vs H Q E h => ?_) (fun cdv A outer s H vs Q E hr h => ?_)
  · obtain ⟨a, m, rfl, _⟩ := h
    rfl
  · obtain ⟨p, most, rfl, hp, m1, m2, q⟩ := h
    have hrD := hr.mono (by omega : k + 1 ≤ k + 3)
    have hrM := hr.mono (by omega : k + 2 ≤ k + 3)
    refine ⟨_, pss_cons (ps_set (i := 2) scKinds.nd rfl (.inl rfl) (pe_lst pa_nil))
      (pss_cons (ps_for PassesOwn.never rfl (pi_list (pe_call GN hr (by rfl) gN FN.kp bN .nil pass0 (pa_cons (pv 0) (pa_cons (pe_op op_add pe_int
            (pe_call GD hrD (by rfl) gD FD.kp bD .nil pass0 (pa_cons (pv 0) (pa_cons (pv 1) pa_nil)))) pa_nil)))) (pg_name (i := 3) scKinds.nd rfl (.inl rfl))
        (pss_cons (ps_set (i := 4) scKinds.nd rfl (.inl rfl) (pe_ix ix_list (pe_lst (pa_cons pe_int (pa_cons pe_int (pa_cons pe_int (pa_cons pe_int (pa_cons pe_int (pa_cons pe_int pa_nil)))))))
            (pe_call GD hrD (by rfl) gD FD.kp bD .nil pass0 (pa_cons (pv 0) (pa_cons pe_int pa_nil))) (fun _ _ => rfl)))
        (pss_one (ps_expr (pe_bm PySem.F.plainAttrs_list PySem.F.slot_list_append PySem.F.type_list_append mt_append (pv 2)
          (pa_cons (pe_tup (pa_cons (pv 3) (pa_cons (pe_callTy call_tuple_of (by rfl) mT (by decide +kernel) (pa_cons (pe_slice sl_list
            (pe_call GM hrM (by rfl) gM FM.kp bM .nil pass0 (pa_cons (pv 0) (pa_cons
              (pe_lc (own := [("_law_row", 5)]) (g := gName 5) (tt := tYes) (te := tOp (rIxT K) (tVar 5) (tC (.int 0))) rfl scKinds.nd (pi_list (pv 2))
                (blkOk_by (own := [("_law_row", 5)]) (N := NKinds) (sc := defScope sKinds) (by decide +kernel))
                (fun _ _ _ _ _ => pg_name (i := 5) scKinds.nd rfl (Or.inl rfl)) (fun _ _ _ _ _ => pts_nil)
                (fun _ _ _ _ _ => pe_ix ix_tup (pv 5) pe_int (fun _ _ => rfl))) pa_nil)))
            po_none (po_some (pv 4))) pa_nil)) pa_nil))) pa_nil))))))
      (pss_one (ps_ret (pv 2)))), ?_⟩
    refine ⟨(by decide : 0 ≤ sizeLine), fun R nR => ?_⟩
    have nRp : p ≠ R := by
      obtain ⟨_, _, e, _⟩ := hp
      exact ne_of_none e nR
    have hpR := hp.same (same_new (o := .lst []) nR)
    refine ⟨.ref p, rfl, .ref p, rfl, .int most, rfl, p, most, rfl, hpR, by omega, by omega, fun H1 d a1 a2 hp1 s1 => ?_⟩
    refine ⟨_, _, rfl, rfl, p, (1 + d).toNat, ?_, hp1, by omega, fun H2 N xs hp2 s2 nN neN eN lN ndN nmN => ?_⟩
    · show [V.ref p, V.int (1 + d)] = _
      rw [Int.toNat_of_nonneg (by omega)]
    have R1 := s1 _ _ nRp.symm upd_same
    have nNR : R ≠ N := ne_of_none R1 nN
    have R2 := s2 _ _ nRp.symm R1
    have b2 : But p H H2 := (But.of_same (same_new nR)).trans (s1.trans s2)
    refine ⟨N, rfl, ⟨_, .inl (.inl eN)⟩, ?_⟩
    refine for_list (xs := xs.map V.str) (fun i σ H3 => ∃ (y3 y4 : Option V) (us : List V) (rows : List Row2), σ = [some (.ref p), some (.int most), some (.ref R), y3, y4, none] ∧ H3 R = some (.lst us) ∧
        RowsAre H3 us rows ∧ Valid rows ∧ fsts rows = xs.take i ∧ H3 N = some (.lst (xs.map V.str)) ∧ PotAt H3 p ∧ But p H H3)
      ⟨none, none, [], [], rfl, R2, .nil, valid_nil, rfl, eN, hp2, b2⟩ (fun i σ H3 _ hP => ?_) (fun i v σ H3 hv hP => ?_) (fun σ H3 hP => ?_)
    · obtain ⟨_, _, _, _, _, _, _, _, _, e, _⟩ := hP
      exact .inl (.inl e)
    · obtain ⟨y3, y4, us, rows, rfl, eR, era, eva, efs, eN3, hp3, b3⟩ := hP
      rw [List.getElem?_map] at hv
      obtain ⟨x, hx, rfl⟩ : ∃ x, xs[i]? = some x ∧ v = .str x := by
        cases hz : xs[i]? with
        | none =>
          rw [hz] at hv
          cases hv
        | some x =>
          rw [hz] at hv
          exact ⟨x, rfl, (Option.some.inj hv).symm⟩
      have hil : i < xs.length := (List.getElem?_eq_some_iff.mp hx).1
      have lr : rows.length = i := by
        have := congrArg List.length efs
        unfold fsts at this
        rw [List.length_map, List.length_take] at this
        omega
      refine ⟨(by decide : 6 ≤ sizeLine), fun l nl => ?_⟩
      have t1 := same_new (o := .lst [.int 0, .int 1, .int 1, .int 2, .int 2, .int 3]) nl
      have nlp : p ≠ l := by
        obtain ⟨_, _, e, _⟩ := hp3
        exact ne_of_none e nl
      refine ⟨.ref p, rfl, p, 6, rfl, hp3.same t1, by decide, by decide, fun H5 d5 c1 c2 hp5 s5 => ?_⟩
      have el := s5 _ _ nlp.symm upd_same
      obtain ⟨n, hn, n3⟩ : ∃ n : Nat, atI [V.int 0, V.int 1, V.int 1, V.int 2, V.int 2, V.int 3] d5 = some (.int n) ∧ n ≤ 3 := by
        have : d5 = 0 ∨ d5 = 1 ∨ d5 = 2 ∨ d5 = 3 ∨ d5 = 4 ∨ d5 = 5 := by omega
        rcases this with rfl | rfl | rfl | rfl | rfl | rfl
        · exact ⟨0, rfl, by decide⟩
        · exact ⟨1, rfl, by decide⟩
        · exact ⟨1, rfl, by decide⟩
        · exact ⟨2, rfl, by decide⟩
        · exact ⟨2, rfl, by decide⟩
        · exact ⟨3, rfl, by decide⟩
      have R5 : H5 R = some (.lst us) := s5 _ _ nRp.symm (t1 _ _ eR)
      have N5 : H5 N = some (.lst (xs.map V.str)) := s5 _ _ neN (t1 _ _ eN3)
      have era5 : RowsAre H5 us rows := (era.same t1).but (hp3.same t1) s5
      have b5 : But p H H5 := (b3.new nl).trans s5
      refine ⟨l, _, d5, .int n, rfl, rfl, .inl (.inl el), hn, ?_⟩
      refine ⟨.ref R, rfl, .inl ⟨rfl, _, .inl (.inl R5)⟩, .str x, rfl, .ref p, rfl, .ref R, rfl, R, rfl, ⟨_, .inl (.inl R5)⟩, fun D nD => ?_⟩
      have nDR : R ≠ D := ne_of_none R5 nD
      refine lc_list (xs := us) (fun j H6 => H6 = upd H5 D (.lst (((fsts rows).take j).map V.str))) rfl (fun j H6 _ hP => ?_) (fun j v H6 hv hP => ?_) (fun H6 hP => ?_)
      · subst hP
        exact .inl (.inl (by rw [upd_ne nDR]; exact R5))
      · subst hP
        obtain ⟨r, hr1, t, sA, rfl, et, es⟩ := era5.get hv
        have jl : j < us.length := (List.getElem?_eq_some_iff.mp hv).1
        refine ⟨rfl, .ref t, rfl, t, [.str r.1, .ref sA], 0, .str r.1, rfl, rfl, .inl (.inl (by rw [upd_ne (ne_of_none et nD)]; exact et)), atI_nat (j := 0) rfl, _, upd_same, ?_, ?_⟩
        · rw [List.length_map, List.length_take]
          have := era5.length
          exact sz1 (by
            have : xs.length ≤ 25 := by omega
            omega)
        · have hf : (fsts rows)[j]? = some r.1 := by
            unfold fsts
            rw [List.getElem?_map, hr1]
            rfl
          rw [upd_upd, List.take_add_one, hf, List.map_append]
          rfl
      · subst hP
        have ln := era5.length
        have etk : (fsts rows).take us.length = fsts rows := List.take_of_length_le (by
          unfold fsts
          rw [List.length_map]
          omega)
        rw [etk]
        have t6 := same_new (o := .lst ((fsts rows).map V.str)) nD
        refine ⟨p, D, (fsts rows).map V.str, rfl, hp5.same t6, .inl (.inl upd_same), by
          unfold fsts
          rw [List.length_map, List.length_map]
          omega, fun H7 D2 ys hp7 s7 nD2 neD2 eD2 pm => ?_⟩
        obtain ⟨ms, rfl, pm2⟩ := perm_strs pm
        refine ⟨.int n, rfl, n, rfl, D2, _, rfl, .inl (.inl eD2), fun c nc => ?_⟩
        rw [cut_take] at *
        refine ⟨c, _, rfl, .inl ⟨.inl (.inl upd_same), fun u nu => ?_⟩⟩
        refine ⟨(by decide : 2 ≤ sizeLine), fun t nt => ?_⟩
        have z1 := same_new (o := .lst ((ms.map V.str).take n)) nc
        have z2 := same_new (o := .tup ((ms.map V.str).take n)) nu
        have z3 := same_new (o := .tup [.str x, .ref u]) nt
        have R7 : H7 R = some (.lst us) := s7 _ _ nRp.symm (t6 _ _ R5)
        have R8 := z3 _ _ (z2 _ _ (z1 _ _ R7))
        have N8 := z3 _ _ (z2 _ _ (z1 _ _ (s7 _ _ neN (t6 _ _ N5))))
        have U8 := z3 _ _ (upd_same (H := upd H7 c (.lst ((ms.map V.str).take n))) (a := u) (o := .tup ((ms.map V.str).take n)))
        have era7 : RowsAre H7 us rows := (era5.same t6).but (hp5.same t6) s7
        refine ⟨R, us, .ref t, rfl, rfl, R8, sz1 (by omega), ?_⟩
        have hxr : x ∉ fsts rows := by
          rw [efs]
          intro hz
          obtain ⟨j, hj, e⟩ := List.getElem_of_mem hz
          rw [List.getElem_take] at e
          have hj2 : j < i := by
            rw [List.length_take] at hj
            omega
          have hxi : xs[i] = x := (List.getElem?_eq_some_iff.mp hx).2
          exact (List.pairwise_iff_getElem.mp ndN j i (by omega) hil hj2) (by rw [e, hxi])
        have hnd : (fsts rows).Nodup := by
          rw [efs]
          exact ndN.sublist (List.take_sublist _ _)
        refine ⟨_, _, us ++ [.ref t], rows ++ [(x, ms.take n)], rfl, upd_same, ?_, ?_, ?_, ?_, ?_, ?_⟩
        · refine RowsAre.snoc ((((era7.same z1).same z2).same z3).wr R8) (RowAt.wr R8 ⟨t, u, rfl, upd_same, ?_⟩)
          rw [List.map_take]
          exact U8
        · refine eva.snoc (nmN x (List.mem_of_getElem? hx)) hxr ((pm2.nodup_iff.mpr hnd).sublist (List.take_sublist _ _)) ?_
          intro z hz
          exact pm2.mem_iff.mp (List.mem_of_mem_take hz)
        · rw [fsts_snoc, efs, List.take_add_one, hx]
          rfl
        · rw [upd_ne nNR.symm]
          exact N8
        · obtain ⟨r, g, e, h⟩ := hp7
          exact ⟨r, g, by rw [upd_ne nRp]; exact z3 _ _ (z2 _ _ (z1 _ _ e)), h⟩
        · intro b o nb hb
          rw [upd_ne (ne_of_none hb nR)]
          exact z3 _ _ (z2 _ _ (z1 _ _ (s7 _ _ nb (t6 _ _ (b5 b o nb hb)))))
    · obtain ⟨y3, y4, us, rows, rfl, eR, era, eva, efs, eN3, hp3, b3⟩ := hP
      have lr : rows.length = xs.length := by
        have := congrArg List.length efs
        unfold fsts at this
        rw [List.length_map, List.length_take, List.length_map] at this
        omega
      exact ⟨.ref R, rfl, q _ R us rows hp3 b3 nR nRp.symm eR era eva (by omega) (by omega)⟩
end
end Lw
/-! for i, x in enumerate(t), t a tuple. -/
namespace Kv
open PySem PySem.Spec PyProof.Rows L2
open AutoSeq1 (wpAny_loadPart')
/-- a tuple's iterator, an enumerate over it -/
abbrev tupIt (t : Addr) : Obj := { cls := .type "tuple_iterator", data := .fields #[.ref t, .int 0 0] }
abbrev enumOf (it : Addr) : Obj := { cls := .type "enumerate", data := .fields #[.none, .bool false, .ref it, rawInt 0, .none, .none] }
set_option maxHeartbeats 1000000 in
theorem enum_new (t : Addr) (items : Array Value) (n : Nat) (dct : Option Addr) (sl : Array (Option Value)) :
    Meets (Builtin.«enumerate.__new__» ⟨[.type "enumerate", .ref t], []⟩) (fun _ R s =>
      s.heap.get? t = some { cls := .type "tuple", dict := dct, data := .seq items n, slots := sl } ∧
      R (.ok (.ret (.ref (s.heap.push (tupIt t)).objs.size)))
        { s with heap := (s.heap.push (tupIt t)).push (enumOf s.heap.objs.size) }) :=
  .of_wp fun prog w A R s h => by
    obtain ⟨hp, g, d, tk, os⟩ := s
    obtain ⟨hl, h⟩ := h
    have hsub := sub_enumerate
    have hT : Heap.IsTuple (Shared.heap ⟨hp, g, d, tk, os⟩) t items :=
      ⟨_, hl, rfl, n, rfl⟩
    wp_walk using wpAny_loadPart' hl
    refine wpAny_stack_any fun st =>
      wpAny_pure ?_
    split
    · rename_i c _ _ _ _ _
      cases (c == Value.type "enumerate") <;>
        (wp_walk using wpAny_loadPart' hl, wpAny_pyIter_tuple hT
         exact ⟨_, rfl, h⟩)
    · wp_walk using wpAny_loadPart' hl, wpAny_pyIter_tuple hT
      exact ⟨_, rfl, h⟩
section
variable {prog : Program} {w : World} {A : Around} {E : Value → Shared → Prop} {s : Shared}
theorem enum_call {t : Addr} {items : Array Value} {Q : Value → Shared → Prop} (hL : s.heap.IsTuple t items)
    (h : ∀ h2, IsEnum h2 (s.heap.objs.size + 1) s.heap.objs.size 0 .none → h2.IsTupleIter s.heap.objs.size t 0 →
      (∀ b o, s.heap.get? b = some o → h2.get? b = some o) →
      Q (.ref (s.heap.objs.size + 1)) { s with heap := h2 }) :
    wpAny (model prog w) A (call (.type "enumerate") [.ref t]) Q E s := by
  obtain ⟨⟨c, dct, dt, sl⟩, hl, hc, n, hd⟩ := hL
  obtain rfl : c = .type "tuple" := hc
  obtain rfl : dt = .seq items n := hd
  refine callType_new F.called_enumerate (by decide) (F.typeCall_enumerate_1 _) (F.newCall_enumerate_1 _)
    (fun obj => F.args_object_init_2 obj _) F.entry_enumerate_new (enum_new t items n dct sl) ⟨hl, ?_⟩
  have hz : (s.heap.push (tupIt t)).objs.size = s.heap.objs.size + 1 := Heap.size_push ..
  show _ ∧ _
  rw [hz]
  have he : IsEnum ((s.heap.push (tupIt t)).push (enumOf s.heap.objs.size)) (s.heap.objs.size + 1) s.heap.objs.size 0 .none := by
    have q := Heap.get?_push_size (s.heap.push (tupIt t)) (o := enumOf s.heap.objs.size) rfl
    rw [hz] at q
    exact q
  refine ⟨⟨_, he, rfl⟩, h _ he ?_ ?_⟩
  · exact ⟨_, Heap.get?_push_of_some _ (Heap.get?_push_size _ rfl), rfl, rfl⟩
  · intro b o x
    exact Heap.get?_push_of_some _ (Heap.get?_push_of_some _ x)
end
/-- the tuple at a as it stands, its items in new pairs -/
def Itet (K : PySem.W.Frag) (a : Addr) : It :=
  ⟨fun i H => ∃ (xs : List V) (x : V), SqT K H a xs ∧ xs[i]? = some x,
   fun i H v H' => ∃ T x, v = .ref T ∧ H T = none ∧ H' = upd H T (.tup [.int (i : Nat), x]) ∧
     ∀ xs, SqT K H a xs → xs[i]? = some x,
   fun i H => ∃ xs : List V, SqT K H a xs ∧ xs.length = i⟩
theorem turn_enumT {P : Program} {w : World} {K : PySem.W.Frag} {elts : List Expr} {kk : Nat} {tpos : Pos} (a e it : Addr) :
    Turn P w K (.Tuple elts kk tpos) (Itet K a) [e, it] e
      (fun i h => (∃ old, IsEnum h e it ((i : Nat) : Int) old) ∧ h.IsTupleIter it a i ∧ e ≠ it ∧ a ≠ it ∧ a ≠ e) where
  mem := by simp
  obj := by
    intro i h st b hb
    obtain ⟨⟨old, he⟩, ⟨o, ho, hc, hd⟩, _⟩ := st
    rcases List.mem_cons.mp hb with z | z
    · rw [z]
      exact ⟨_, he, fun v q => nomatch q⟩
    · rw [List.mem_singleton.mp z]
      exact ⟨o, ho, fun v q => by rw [hd] at q; cases q⟩
  keep := by
    intro i h h2 st k
    obtain ⟨⟨old, he⟩, hi, ne⟩ := st
    exact ⟨⟨old, k e (by simp) _ he⟩, hi.at fun o q => k it (by simp) o q, ne⟩
  item := by
    intro X hP hw hK hc i pins s σ H E I hf st hg
    subst hP hw hK
    obtain ⟨⟨old, he⟩, hit, hne, nai, nae⟩ := st
    obtain ⟨xs, x, hq, hx⟩ := hg
    obtain ⟨its, rv, p, hz⟩ := I.tuple hq
    obtain ⟨u, hu, ru⟩ := rv.get hx
    have lte : e < s.heap.objs.size := Heap.lt_size he
    have lti : it < s.heap.objs.size := by
      obtain ⟨_, q, _⟩ := hit
      exact Heap.lt_size q
    have hil : i < its.toArray.size := by
      rw [List.size_toArray]
      exact (List.getElem?_eq_some_iff.mp hu).1
    refine wpAny_pyNext_enum_itemD (Draws.tuple (A := X.A.in1) (I.ok.hd hc) it a nai its.toArray) he ⟨hit, p⟩ hil hne ?_ ?_
    · intro z
      rcases List.mem_cons.mp z with y | y
      · exact hne y
      · exact nae (List.mem_singleton.mp y).symm
    intro y h2 tk hy ho hit2 hT hsz hk
    obtain rfl : y = u := by
      have hy2 : its.toArray[i]? = some y := hy
      have hu2 : its.toArray[i]? = some u := by simpa using hu
      rw [hu2] at hy2
      exact (Option.some.inj hy2).symm
    refine ⟨_, rfl, wpAny_letOwnedTupleGo_enum (s := { s with heap := h2, toks := tk + 1 }) ho ?_⟩
    intro h3 he3 sb
    have hT3 : h3.get? s.heap.objs.size = some { cls := .type "tuple", data := .seq #[.int i tk, y] } :=
      (sb.2 _ (Nat.ne_of_gt lte)).trans hT
    have new : ObjOk X.prog X.w (upd H s.heap.objs.size (.tup [.int (i : Nat), x])) h3 s.heap.objs.size (.tup [.int (i : Nat), x]) := by
      refine ⟨(by decide : 2 ≤ sizeLine), [.int i tk, y], .cons ⟨_, rfl⟩ (.cons ru .nil), ?_⟩
      exact ⟨_, hT3, rfl, _, rfl⟩
    have I1 : Inv X pins σ (upd H s.heap.objs.size (.tup [.int (i : Nat), x])) { s with heap := h3, toks := tk + 1 } := by
      refine I.turnedNew (ch := [e, it]) ?_ hf (Nat.le_refl _) new
      intro b ob hb q
      have nb1 : b ≠ e := fun z => hb (by simp [z])
      have nb2 : b ≠ it := fun z => hb (by simp [z])
      exact (sb.2 b nb1).trans (hk b ob nb1 nb2 q)
    refine ⟨.ref s.heap.objs.size, _, I1, rfl, ⟨_, x, rfl, I.hok.fresh (Nat.le_refl _), rfl, ?_⟩, ⟨⟨y, ?_⟩, ?_, hne, nai, nae⟩, ?_⟩
    · intro ys hys
      rw [I.tuple_inj hys hq]
      exact hx
    · have e1 : ((i + 1 : Nat) : Int) = (i : Int) + 1 := by omega
      rw [e1]
      exact he3
    · exact hit2.1.at fun o q => (sb.2 it (Ne.symm hne)).trans q
    · intro b hb
      have lb : b < s.heap.objs.size := by
        rcases List.mem_cons.mp hb with z | z
        · rw [z]
          exact lte
        · rw [List.mem_singleton.mp z]
          exact lti
      rw [upd_ne (Nat.ne_of_lt lb)]
      exact (hf b hb).1
  done := by
    intro X hP hw hK hc i pins s σ H E I hf st hg
    subst hP hw hK
    obtain ⟨⟨old, he⟩, hit, hne, nai, nae⟩ := st
    obtain ⟨xs, hq, hx⟩ := hg
    obtain ⟨its, rv, p, hz⟩ := I.tuple hq
    obtain ⟨f0, f1, f2, f3, f4, f5⟩ := hf it (by simp)
    have hl := rv.length
    have ei : its.toArray.size = i := by
      rw [List.size_toArray, ← hl]
      exact hx
    refine wpAny_pyNext_enum_endD (Draws.tuple (A := X.A.in1) (I.ok.hd hc) it a nai its.toArray) he ⟨?_, p⟩ ?_
    · rw [ei]
      exact hit
    · intro h2 eb
      exact ⟨rfl, I.turned (t' := s.toks) (fun b o hb q => eb b o hb q) f0 f1 f3 f4 f5⟩
  self := by
    intro A i s Q E st h
    obtain ⟨⟨_, he⟩, _⟩ := st
    exact wpAny_pyIter_enum he h
/-- enumerate of a list or of a tuple -/
def iEnumS (K : PySem.W.Frag) (ta : TA) : TI := fun σ H R => ta σ H fun vs H1 =>
  (∃ a xs, vs = [.ref a] ∧ SqL K H1 a xs ∧ R (Ite K a) H1) ∨ ∃ a xs, vs = [.ref a] ∧ SqT K H1 a xs ∧ R (Itet K a) H1
theorem pi_enumS {X : Cx} {e : Expr} {ta : TA} {p pos tpos : Pos} {elts : List Expr} {kk : Nat} (hg : Gl X "enumerate")
    (hm : X.mg "enumerate" = none) (ha : PA X [e] ta) (hs : starEach [e] X.env = [(false, eval e X.env)] := by rfl) :
    PI X (.Tuple elts kk tpos) (.Call (.Name "enumerate" p) [e] [] pos) (iEnumS X.K ta) := by
  constructor
  intro pins s σ H R I h
  refine Call_ (ld_blt I hg hm boot_enumerate (PyProof.Rows.callWith_type1
    (thn (ha.run pos pins s σ H _ I h) fun us s1 ⟨vs, H1, I1, r1, q1⟩ => ?_) hs rfl))
  have fresh : ∀ b ∈ [s1.heap.objs.size + 1, s1.heap.objs.size], FpOk X pins H1 b := by
    intro b hb
    have le : s1.heap.objs.size ≤ b := by
      rcases List.mem_cons.mp hb with z | z
      · rw [z]
        exact Nat.le_succ _
      · rw [List.mem_singleton.mp z]
        exact Nat.le_refl _
    exact I1.fpOk le (I1.hok.fresh le)
  rcases q1 with ⟨a, xs, rfl, hq, q⟩ | ⟨a, xs, rfl, hq, q⟩
  · cases r1 with
    | cons r rr =>
      cases rr
      cases r
      obtain ⟨its, rv, pl, hz⟩ := I1.list hq
      refine call_enumerate_list pl.isList fun h2 he hit hsz hk => wpAny_pyIter_enum he ?_
      exact ⟨s1.heap.objs.size + 1, [s1.heap.objs.size + 1, s1.heap.objs.size], _, _, H1, rfl, I1.kept (t' := s1.toks) hk,
        turn_enum a (s1.heap.objs.size + 1) s1.heap.objs.size, ⟨⟨.none, he⟩, hit, Nat.succ_ne_self _⟩, fresh, q⟩
  · cases r1 with
    | cons r rr =>
      cases rr
      cases r
      obtain ⟨its, rv, pl, hz⟩ := I1.tuple hq
      have lta : a < s1.heap.objs.size := by
        obtain ⟨o, ho, _⟩ := pl
        exact Heap.lt_size ho
      refine enum_call pl fun h2 he hit hk => wpAny_pyIter_enum he ?_
      exact ⟨s1.heap.objs.size + 1, [s1.heap.objs.size + 1, s1.heap.objs.size], _, _, H1, rfl, I1.kept (t' := s1.toks) hk,
        turn_enumT a (s1.heap.objs.size + 1) s1.heap.objs.size,
        ⟨⟨.none, he⟩, hit, Nat.succ_ne_self _, Nat.ne_of_lt lta, Nat.ne_of_lt (Nat.lt_succ_of_lt lta)⟩, fresh, q⟩
end Kv
/-! The classes above a class, as a hierarchy keeps them. -/
namespace Kv
open PySem PySem.Spec PyProof.Rows L2
/-- a dict of texts, each with True -/
def flag (as : List Str) : List (Key × V) := as.map fun a => (Sum.inr a, V.bl true)
def addA (acc : List Str) (a : Str) : List Str := if a ∈ acc then acc else acc ++ [a]
def addAll (acc as : List Str) : List Str := as.foldl addA acc
abbrev Tab := List (Str × List Str)
def look (tab : Tab) (x : Str) : List Str := (tab.lookup x).getD []
def ancOf (tab : Tab) (n : Str) (ss : List Str) : List Str := ss.foldl (fun acc s => addAll acc (look tab s)) [n]
def tabKeys (tab : Tab) : List Str := tab.map (·.1)
def ancTab (rows : List Row2) : Tab := rows.foldl (fun tab r => tab ++ [(r.1, ancOf tab r.1 r.2)]) []
theorem keyr_ne {a b : Str} (h : a ≠ b) : ¬ ((Sum.inr a : Key) = Sum.inr b) := fun z => h (Sum.inr.inj z)
theorem valV_flag (a : Str) : ∀ as : List Str, valV (flag as) (Sum.inr a : Key) = if a ∈ as then some (.bl true) else none
  | [] => rfl
  | x :: r => by
    have ih := valV_flag a r
    show valV (((Sum.inr x : Key), V.bl true) :: flag r) _ = _
    by_cases e : x = a
    · subst e
      rw [valV_pos rfl, if_pos (List.mem_cons_self ..)]
    · rw [valV_neg (keyr_ne e), ih]
      by_cases h : a ∈ r
      · rw [if_pos h, if_pos (List.mem_cons_of_mem _ h)]
      · rw [if_neg h, if_neg (fun z => by
          rcases List.mem_cons.mp z with z | z
          · exact e z.symm
          · exact h z)]
theorem flag_map (a : Str) : ∀ as : List Str, (flag as).map (fun kv => if kv.1 = (Sum.inr a : Key) then (kv.1, V.bl true) else kv) = flag as
  | [] => rfl
  | x :: r => by
    show (if (Sum.inr x : Key) = Sum.inr a then ((Sum.inr x : Key), V.bl true) else ((Sum.inr x : Key), V.bl true)) :: (flag r).map _ = ((Sum.inr x : Key), V.bl true) :: flag r
    rw [flag_map a r]
    split <;> rfl
theorem put_flag (acc : List Str) (a : Str) : putK (flag acc) (Sum.inr a : Key) (.bl true) = flag (addA acc a) := by
  unfold putK addA
  rw [valV_any, valV_flag]
  by_cases h : a ∈ acc
  · rw [if_pos h, if_pos h]
    rw [if_pos (by rfl : (some (V.bl true)).isSome = true)]
    exact flag_map a acc
  · rw [if_neg h, if_neg h]
    show (if (none : Option V).isSome = true then _ else _) = _
    rw [if_neg (by simp)]
    unfold flag
    rw [List.map_append]
    rfl
theorem flag_len (as : List Str) : (flag as).length = as.length := List.length_map _
theorem addA_nodup {acc : List Str} {a : Str} (h : acc.Nodup) : (addA acc a).Nodup := by
  unfold addA
  split
  · exact h
  · rename_i hn
    rw [List.nodup_append]
    refine ⟨h, List.pairwise_singleton _ _, fun x hx y hy => ?_⟩
    rw [List.mem_singleton.mp hy]
    rintro rfl
    exact hn hx
theorem mem_addA {acc : List Str} {a x : Str} : x ∈ addA acc a ↔ x ∈ acc ∨ x = a := by
  unfold addA
  split
  · rename_i h
    constructor
    · exact Or.inl
    · rintro (z | rfl)
      · exact z
      · exact h
  · rw [List.mem_append, List.mem_singleton]
theorem addAll_snoc (acc as : List Str) (a : Str) : addAll acc (as ++ [a]) = addA (addAll acc as) a := by
  unfold addAll
  rw [List.foldl_append]
  rfl
theorem addAll_take {as : List Str} {i : Nat} {a : Str} (acc : List Str) (h : as[i]? = some a) : addAll acc (as.take (i + 1)) = addA (addAll acc (as.take i)) a := by
  rw [List.take_add_one, h]
  exact addAll_snoc ..
theorem addAll_nodup : ∀ {as acc : List Str}, acc.Nodup → (addAll acc as).Nodup
  | [], _, h => h
  | a :: r, acc, h => addAll_nodup (as := r) (addA_nodup h)
theorem mem_addAll {x : Str} : ∀ {as acc : List Str}, x ∈ addAll acc as ↔ x ∈ acc ∨ x ∈ as
  | [], acc => by
    show x ∈ acc ↔ _
    simp
  | a :: r, acc => by
    show x ∈ addAll (addA acc a) r ↔ _
    rw [mem_addAll, mem_addA, List.mem_cons]
    constructor
    · rintro ((z | z) | z)
      · exact Or.inl z
      · exact Or.inr (Or.inl z)
      · exact Or.inr (Or.inr z)
    · rintro (z | z | z)
      · exact Or.inl (Or.inl z)
      · exact Or.inl (Or.inr z)
      · exact Or.inr z
/-- the classes found behind i superclasses -/
def ancAt (tab : Tab) (n : Str) (ss : List Str) (i : Nat) : List Str := ancOf tab n (ss.take i)
theorem ancAt_next {tab : Tab} {n : Str} {ss : List Str} {i : Nat} {s : Str} (h : ss[i]? = some s) : ancAt tab n ss (i + 1) = addAll (ancAt tab n ss i) (look tab s) := by
  unfold ancAt ancOf
  rw [List.take_add_one, h, List.foldl_append]
  rfl
theorem ancOf_nodup {tab : Tab} {n : Str} {ss : List Str} : (ancOf tab n ss).Nodup := by
  unfold ancOf
  have : ∀ (l acc : List Str), acc.Nodup → (l.foldl (fun acc s => addAll acc (look tab s)) acc).Nodup := by
    intro l
    induction l with
    | nil => intro acc h; exact h
    | cons a r ih => intro acc h; exact ih _ (addAll_nodup h)
  exact this ss [n] (List.pairwise_singleton _ _)
theorem mem_ancOf {tab : Tab} {n x : Str} {ss : List Str} : x ∈ ancOf tab n ss ↔ x = n ∨ ∃ s ∈ ss, x ∈ look tab s := by
  have : ∀ (l acc : List Str), x ∈ l.foldl (fun acc s => addAll acc (look tab s)) acc ↔ x ∈ acc ∨ ∃ s ∈ l, x ∈ look tab s := by
    intro l
    induction l with
    | nil => intro acc; simp
    | cons a r ih =>
      intro acc
      show x ∈ r.foldl _ (addAll acc (look tab a)) ↔ _
      rw [ih, mem_addAll]
      constructor
      · rintro ((z | z) | ⟨s, hs, z⟩)
        · exact Or.inl z
        · exact Or.inr ⟨a, List.mem_cons_self .., z⟩
        · exact Or.inr ⟨s, List.mem_cons_of_mem _ hs, z⟩
      · rintro (z | ⟨s, hs, z⟩)
        · exact Or.inl (Or.inl z)
        · rcases List.mem_cons.mp hs with rfl | hs
          · exact Or.inl (Or.inr z)
          · exact Or.inr ⟨s, hs, z⟩
  unfold ancOf
  rw [this, List.mem_singleton]
/-- each entry holds known classes -/
def TabOk (tab : Tab) : Prop := ∀ (x : Str) (as : List Str), (x, as) ∈ tab → as.Nodup ∧ ∀ a ∈ as, a ∈ tabKeys tab
theorem mem_look {tab : Tab} : ∀ {x : Str}, x ∈ tabKeys tab → (x, look tab x) ∈ tab := by
  induction tab with
  | nil => intro x h; cases h
  | cons p r ih =>
    intro x h
    obtain ⟨y, as⟩ := p
    unfold look
    rw [List.lookup_cons]
    by_cases e : x = y
    · subst e
      rw [beq_self_eq_true]
      exact List.mem_cons_self ..
    · rw [beq_eq_false_iff_ne.mpr e]
      refine List.mem_cons_of_mem _ (ih ?_)
      rcases List.mem_cons.mp h with z | z
      · exact absurd z e
      · exact z
theorem look_none {tab : Tab} : ∀ {x : Str}, x ∉ tabKeys tab → look tab x = [] := by
  induction tab with
  | nil => intro x _; rfl
  | cons p r ih =>
    intro x h
    obtain ⟨y, as⟩ := p
    have h1 : x ≠ y := fun z => h (z ▸ List.mem_cons_self ..)
    have h2 := ih (x := x) fun z => h (List.mem_cons_of_mem _ z)
    unfold look at h2 ⊢
    rw [List.lookup_cons, beq_eq_false_iff_ne.mpr h1]
    exact h2
theorem look_sub {tab : Tab} (ok : TabOk tab) {x a : Str} (h : a ∈ look tab x) : a ∈ tabKeys tab := by
  by_cases hx : x ∈ tabKeys tab
  · exact (ok _ _ (mem_look hx)).2 a h
  · rw [look_none hx] at h
    cases h
theorem nodup_le {L F : List Str} (h : L.Nodup) (s : ∀ x ∈ L, x ∈ F) : L.length ≤ F.length := by
  have := filter_left F h
  have e : L.filter (fun y => decide (y ∉ F)) = [] := List.filter_eq_nil_iff.mpr fun y hy => by simpa using s y hy
  rw [e] at this
  have z : ([] : List Str).length = 0 := rfl
  omega
theorem TabOk.snoc {tab : Tab} (ok : TabOk tab) (n : Str) (ss : List Str) : TabOk (tab ++ [(n, ancOf tab n ss)]) := by
  intro x as h
  have ek : tabKeys (tab ++ [(n, ancOf tab n ss)]) = tabKeys tab ++ [n] := by
    unfold tabKeys
    rw [List.map_append]
    rfl
  rw [ek]
  rcases List.mem_append.mp h with z | z
  · obtain ⟨h1, h2⟩ := ok x as z
    exact ⟨h1, fun a ha => List.mem_append_left _ (h2 a ha)⟩
  · have := List.mem_singleton.mp z
    cases this
    refine ⟨ancOf_nodup, fun a ha => ?_⟩
    rcases mem_ancOf.mp ha with rfl | ⟨s, _, hs⟩
    · exact List.mem_append_right _ (List.mem_singleton.mpr rfl)
    · exact List.mem_append_left _ (look_sub ok hs)
theorem tabOk_nil : TabOk [] := fun x as h => by cases h
theorem ancTab_snoc (rows : List Row2) (r : Row2) : ancTab (rows ++ [r]) = ancTab rows ++ [(r.1, ancOf (ancTab rows) r.1 r.2)] := by
  unfold ancTab
  rw [List.foldl_append]
  rfl
theorem ancTab_take {rows : List Row2} {i : Nat} {r : Row2} (h : rows[i]? = some r) : ancTab (rows.take (i + 1)) = ancTab (rows.take i) ++ [(r.1, ancOf (ancTab (rows.take i)) r.1 r.2)] := by
  rw [List.take_add_one, h]
  exact ancTab_snoc ..
theorem ancTab_ok (rows : List Row2) : ∀ i, TabOk (ancTab (rows.take i))
  | 0 => tabOk_nil
  | i + 1 => by
    cases h : rows[i]? with
    | none =>
      rw [List.take_add_one, h]
      show TabOk (ancTab (rows.take i ++ []))
      rw [List.append_nil]
      exact ancTab_ok rows i
    | some r =>
      rw [ancTab_take h]
      exact (ancTab_ok rows i).snoc _ _
theorem ancTab_keys (rows : List Row2) : tabKeys (ancTab rows) = fsts rows := by
  have : ∀ (l : List Row2) (tab : Tab), tabKeys (l.foldl (fun tab r => tab ++ [(r.1, ancOf tab r.1 r.2)]) tab) = tabKeys tab ++ fsts l := by
    intro l
    induction l with
    | nil =>
      intro tab
      show tabKeys tab = tabKeys tab ++ []
      rw [List.append_nil]
    | cons r l ih =>
      intro tab
      show tabKeys (l.foldl _ (tab ++ [(r.1, ancOf tab r.1 r.2)])) = _
      rw [ih]
      unfold tabKeys fsts
      rw [List.map_append, List.append_assoc]
      rfl
  exact this rows []
/-! ### in the heap -/
def EntryAt (H : Hp) (kv : Key × V) (na : Str × List Str) : Prop := kv.1 = Sum.inr na.1 ∧ ∃ d, kv.2 = .ref d ∧ H d = some (.dK (flag na.2))
def Entries (H : Hp) : List (Key × V) → Tab → Prop := Paired (EntryAt H)
theorem Entries.mono {H H' : Hp} {kvs : List (Key × V)} {tab : Tab} (h : Entries H kvs tab) (k : ∀ d as, H d = some (.dK (flag as)) → H' d = some (.dK (flag as))) : Entries H' kvs tab :=
  Paired.mapP h fun _ _ ⟨e1, d, e2, e3⟩ => ⟨e1, d, e2, k d _ e3⟩
theorem Entries.look {H : Hp} : ∀ {kvs : List (Key × V)} {tab : Tab} {x : Str}, Entries H kvs tab → x ∈ tabKeys tab → ∃ d, valV kvs (Sum.inr x : Key) = some (.ref d) ∧ H d = some (.dK (flag (look tab x)))
  | _, _, _, .nil, h => by cases h
  | p :: _, (y, as) :: r, x, .cons ⟨e1, d, e2, e3⟩ t, h => by
    by_cases e : x = y
    · subst e
      refine ⟨d, ?_, ?_⟩
      · rw [valV_pos e1, e2]
      · unfold Kv.look
        rw [List.lookup_cons, beq_self_eq_true]
        exact e3
    · have hx : x ∈ tabKeys r := by
        rcases List.mem_cons.mp h with z | z
        · exact absurd z e
        · exact z
      obtain ⟨d2, g1, g2⟩ := Entries.look t hx
      refine ⟨d2, ?_, ?_⟩
      · rw [valV_neg (fun z => e (Sum.inr.inj (e1.symm.trans z)).symm)]
        exact g1
      · unfold Kv.look at g2 ⊢
        rw [List.lookup_cons, beq_eq_false_iff_ne.mpr e]
        exact g2
theorem Entries.none {H : Hp} : ∀ {kvs : List (Key × V)} {tab : Tab} {x : Str}, Entries H kvs tab → x ∉ tabKeys tab → valV kvs (Sum.inr x : Key) = none
  | _, _, _, .nil, _ => rfl
  | p :: _, (y, as) :: r, x, .cons ⟨e1, d, e2, e3⟩ t, h => by
    rw [valV_neg (fun z => h (by
      have : y = x := Sum.inr.inj (e1.symm.trans z)
      rw [this]
      exact List.mem_cons_self ..))]
    exact Entries.none t fun z => h (List.mem_cons_of_mem _ z)
theorem Entries.snoc {H : Hp} : ∀ {kvs : List (Key × V)} {tab : Tab} {kv : Key × V} {na : Str × List Str}, Entries H kvs tab → EntryAt H kv na → Entries H (kvs ++ [kv]) (tab ++ [na])
  | _, _, _, _, .nil, h => .cons h .nil
  | _, _, _, _, .cons a b, h => .cons a (Entries.snoc b h)
theorem Entries.length {H : Hp} {kvs : List (Key × V)} {tab : Tab} (h : Entries H kvs tab) : kvs.length = tab.length := Paired.length h
/-- the places -/
def placeKV (ns : List Str) : List (Key × V) := ns.zipIdx.map fun p => (Sum.inr p.1, V.int p.2)
theorem place_len (ns : List Str) : (placeKV ns).length = ns.length := by
  unfold placeKV
  rw [List.length_map, List.length_zipIdx]
theorem place_snoc (ns : List Str) (n : Str) : placeKV (ns ++ [n]) = placeKV ns ++ [(Sum.inr n, .int ns.length)] := by
  unfold placeKV
  rw [List.zipIdx_append, List.map_append]
  simp
theorem place_val (x : Str) : ∀ (ns : List Str), (valV (placeKV ns) (Sum.inr x : Key)).isSome = decide (x ∈ ns) := by
  intro ns
  unfold placeKV
  have : ∀ (l : List Str) (k : Nat), (valV ((l.zipIdx k).map fun p => ((Sum.inr p.1 : Key), V.int p.2)) (Sum.inr x : Key)).isSome = decide (x ∈ l) := by
    intro l
    induction l with
    | nil => intro k; rfl
    | cons y r ih =>
      intro k
      rw [List.zipIdx_cons, List.map_cons]
      by_cases e : y = x
      · subst e
        rw [valV_pos rfl, decide_eq_true (List.mem_cons_self ..)]
        rfl
      · rw [valV_neg (keyr_ne e), ih]
        by_cases h : x ∈ r
        · rw [decide_eq_true h, decide_eq_true (List.mem_cons_of_mem _ h)]
        · rw [decide_eq_false h, decide_eq_false (fun z => by
            rcases List.mem_cons.mp z with z | z
            · exact e z.symm
            · exact h z)]
  exact this ns 0
end Kv
namespace Lw
open PySem PySem.Spec PyProof.Rows L2 Kv
abbrev NAre : List Str := ["value", "known", "name"]
theorem scAre : FnScope NAre ["value", "known"] (defScope sAre) :=
  ⟨rfl, rfl, rfl, by decide +kernel, rfl, by decide +kernel, by decide +kernel⟩
theorem scProb : FnScope ["row", "known", "name", "superclasses"] ["row", "known"] (defScope sProb) :=
  ⟨rfl, rfl, rfl, by decide +kernel, rfl, by decide +kernel, by decide +kernel⟩
theorem scAnc : FnScope ["name", "superclasses", "above", "found", "superclass", "ancestor"] ["name", "superclasses", "above"] (defScope sAnc) :=
  ⟨rfl, rfl, rfl, by decide +kernel, rfl, by decide +kernel, by decide +kernel⟩
section
variable {P : Program} {w : World} {K : PySem.W.Frag} {mg : Str → Option Value} {base : Heap}
def areV (kvs : List (Key × V)) (ss : List Str) : Bool := ss.all (fun x => (valV kvs (Sum.inr x : Key)).isSome) && decide (met ss ss.length = ss.length)
def spAre : Sp := fun vs H Q _ => ∃ (a d : Addr) (ss : List Str) (kvs : List (Key × V)), vs = [.ref a, .ref d] ∧ H a = some (.tup (ss.map V.str)) ∧ H d = some (.dK kvs) ∧ ss.length ≤ 100 ∧
  ∀ H', Same H H' → Q (.bl (areV kvs ss)) H'
theorem ok_are {f : Addr} {fd : FuncData} {k : Nat} (F : Fun K "are_superclasses" "are_superclasses" sAre f fd)
    (mi : mg "isinstance" = none) (mT : mg "tuple" = none) (ms : mg "str" = none) (ma : mg "all" = none) (ml : mg "len" = none) (mS : mg "set" = none) :
    FnOk P w K mg base CX0 (k + 1) f fd ["value", "known"] spAre := by
  refine F.ok scAre (fun vs H Q E h => ?_) (fun cdv A outer s H vs Q E hr h => ?_)
  · obtain ⟨a, d, ss, kvs, rfl, _⟩ := h
    rfl
  · obtain ⟨a, d, ss, kvs, rfl, ha, hd, hl, q⟩ := h
    have hu := hu_of hr
    refine ⟨_, pss_cons (ps_if (pt_not (pt_val (pe_callB call_isi (by rfl) mi (by decide +kernel) (pa_cons (pv 0)
          (pa_cons (pe_bltn (v := .ty "tuple") (by rfl) mT (by decide +kernel : bootBuiltins "tuple" = some (.type "tuple")) rfl) pa_nil))))) (pss_one (ps_ret pe_bl)) pss_nil)
      (pss_cons (ps_if (pt_not (pt_val (pe_callB (cr_all rfl) (by rfl) ma (by decide +kernel) (pa_cons
          (pe_lc (own := [("name", 2)]) (g := gName 2) (tt := tYes) (te := tAndV (tCB (rIsi K) (tCons (tVar 2) (tCons (tC (.ty "str")) tNil))) (tDIn (tVar 2) (tVar 1))) rfl scAre.nd (pi_tup (pv 0))
            (blkOk_by (own := [("name", 2)]) (N := NAre) (sc := defScope sAre) (by decide +kernel))
            (fun _ _ _ _ _ => pg_name (i := 2) scAre.nd rfl (Or.inl rfl)) (fun _ _ _ _ _ => pts_nil)
            (fun _ _ _ _ _ => pe_and (pe_callB call_isi (by rfl) mi (by decide +kernel) (pa_cons (pv 2)
              (pa_cons (pe_bltn (v := .ty "str") (by rfl) ms (by decide +kernel : bootBuiltins "str" = some (.type "str")) rfl) pa_nil)))
              (pe_one (pe_cmp (pc_din hu (pv 2) (pv 1)) rfl)))) pa_nil)))) (pss_one (ps_ret pe_bl)) pss_nil)
      (pss_one (ps_ret (pe_cmpR op_eq (pe_lenTexts rfl (by rfl) ml (by rfl) mS (pv 0)) (pe_callB call_len_seq (by rfl) ml PySem.boot_len (pa_cons (pv 0) pa_nil)) (nomark _))))), ?_⟩
    refine ⟨.ref a, rfl, .ref a, .ty "tuple", _, _, true, rfl, .ty "tuple", .base (.tup ha), kit_ty (by decide +kernel), true, rfl, iteF ?_⟩
    refine ⟨.ref a, rfl, a, rfl, ⟨_, .inl (.inl ha)⟩, fun D nD => ?_⟩
    have nDa : a ≠ D := ne_of_none ha nD
    have nDd : d ≠ D := ne_of_none hd nD
    refine lc_tup (xs := ss.map V.str) (fun i H3 => H3 = upd H D (.lst ((ss.take i).map fun x => .bl (valV kvs (Sum.inr x : Key)).isSome))) rfl (fun i H3 _ hP => ?_) (fun i v H3 hv hP => ?_) (fun H3 hP => ?_)
    · subst hP
      exact .inl (.inl (by rw [upd_ne nDa]; exact ha))
    · subst hP
      rw [List.getElem?_map] at hv
      obtain ⟨x, hx, rfl⟩ : ∃ x, ss[i]? = some x ∧ v = .str x := by
        cases hz : ss[i]? with
        | none =>
          rw [hz] at hv
          cases hv
        | some x =>
          rw [hz] at hv
          exact ⟨x, rfl, (Option.some.inj hv).symm⟩
      have hd2 : (upd H D (.lst ((ss.take i).map fun x => V.bl (valV kvs (Sum.inr x : Key)).isSome))) d = some (.dK kvs) := by
        rw [upd_ne nDd]
        exact hd
      refine ⟨rfl, .str x, rfl, .str x, .ty "str", _, _, true, rfl, .ty "str", .base (.str x), kit_ty (by decide +kernel), true, rfl, iteT ?_⟩
      refine ⟨.str x, rfl, .ref d, rfl, d, _, rfl, DGet.k (k := Sum.inr x) hd2, _, upd_same, ?_, ?_⟩
      · rw [List.length_map, List.length_take]
        exact sz1 (by omega)
      · rw [upd_upd, List.take_add_one, hx, List.map_append]
        rfl
    · subst hP
      have et : ss.take (ss.map V.str).length = ss := by
        rw [List.length_map, List.take_length]
      rw [et]
      have sD := same_new (o := .lst (ss.map fun x => V.bl (valV kvs (Sum.inr x : Key)).isSome)) nD
      refine ⟨D, ss.map fun x => (valV kvs (Sum.inr x : Key)).isSome, rfl, .inl (.inl (by rw [upd_same, List.map_map]; rfl)), _, rfl, ?_⟩
      rw [List.all_map]
      show if (!(ss.all (fun x => (valV kvs (Sum.inr x : Key)).isSome))) = true then _ else _
      cases hz : ss.all (fun x => (valV kvs (Sum.inr x : Key)).isSome) with
      | false =>
        refine iteT ?_
        have := q _ sD
        unfold areV at this
        rw [hz, Bool.false_and] at this
        exact this
      | true =>
        refine iteF ?_
        refine ⟨.ref a, rfl, a, ss, rfl, .inl (.inl (sD _ _ ha)), by omega, .ref a, rfl, a, ss.map V.str, rfl, .inr (.inl (.inl (sD _ _ ha))), rfl, ?_⟩
        have := q _ sD
        unfold areV at this
        rw [hz, Bool.true_and] at this
        rw [List.length_map]
        have e : decide (V.int (met ss ss.length : Nat) = V.int (ss.length : Nat)) = decide (met ss ss.length = ss.length) := by
          by_cases e : met ss ss.length = ss.length
          · rw [decide_eq_true e, e]
            exact decide_eq_true rfl
          · rw [decide_eq_false e, decide_eq_false (fun z => e (by
              have := V.int.inj z
              omega))]
        rw [e]
        exact this
def spProb : Sp := fun vs H Q _ => ∃ (t d : Addr) (r : Row2) (kvs : List (Key × V)), vs = [.ref t, .ref d] ∧ RowAt H (.ref t) r ∧ H d = some (.dK kvs) ∧
  nameV (.str r.1) = true ∧ valV kvs (Sum.inr r.1 : Key) = none ∧ (∀ x ∈ r.2, (valV kvs (Sum.inr x : Key)).isSome = true) ∧ r.2.Nodup ∧ r.2.length ≤ 100 ∧
  ∀ H', Same H H' → Q .non H'
theorem ok_prob {f fN fA : Addr} {fd fdN fdA : FuncData} {k : Nat} (F : Fun K "row_problem" "row_problem" sProb f fd)
    (FN : Fun K "is_name" "is_name" sIsName fN fdN) (bN : Binds K fdN ["value"] []) (gN : mg "is_name" = some (.ref fN))
    (FA : Fun K "are_superclasses" "are_superclasses" sAre fA fdA) (bA : Binds K fdA ["value", "known"] []) (gA : mg "are_superclasses" = some (.ref fA))
    (GN : FnOk P w K mg base CX0 (k + 1) fN fdN ["value"] (spName K)) (GA : FnOk P w K mg base CX0 (k + 1) fA fdA ["value", "known"] spAre)
    (mi : mg "isinstance" = none) (mT : mg "tuple" = none) (ml : mg "len" = none) :
    FnOk P w K mg base CX0 (k + 2) f fd ["row", "known"] spProb := by
  refine F.ok scProb (fun vs H Q E h => ?_) (fun cdv A outer s H vs Q E hr h => ?_)
  · obtain ⟨t, d, r, kvs, rfl, _⟩ := h
    rfl
  · obtain ⟨t, d, ⟨n, ss⟩, kvs, rfl, ⟨t', sA, e0, ht, hs⟩, hd, h1, h2, h3, h4, h5, q⟩ := h
    cases e0
    have hu := hu_of hr
    refine ⟨_, pss_cons (ps_if (PW.pt (pw_or (pt_not (pt_val (pe_callB call_isi (by rfl) mi (by decide +kernel) (pa_cons (pv 0)
          (pa_cons (pe_bltn (v := .ty "tuple") (by rfl) mT (by decide +kernel : bootBuiltins "tuple" = some (.type "tuple")) rfl) pa_nil)))))
          (pw_or1 (pt_cmpR op_ne (pe_callB call_len_seq (by rfl) ml PySem.boot_len (pa_cons (pv 0) pa_nil)) pe_int (nomark _))))) (pss_one (ps_ret pe_str)) pss_nil)
      (pss_cons (ps_asg (pv 0) (pg_tup (by rfl) (pgs_cons (pg_name (i := 2) scProb.nd rfl (.inl rfl)) (pgs_cons (pg_name (i := 3) scProb.nd rfl (.inl rfl)) pgs_nil))))
      (pss_cons (ps_if (pt_not (pt_val (pe_call GN hr (by rfl) gN FN.kp bN .nil pass0 (pa_cons (pv 2) pa_nil)))) (pss_one (ps_ret pe_str)) pss_nil)
      (pss_cons (ps_if (pt_cmp (pc_din hu (pv 2) (pv 1))) (pss_one (ps_ret pe_str)) pss_nil)
      (pss_cons (ps_if (pt_not (pt_val (pe_call GA hr (by rfl) gA FA.kp bA .nil pass0 (pa_cons (pv 3) (pa_cons (pv 1) pa_nil))))) (pss_one (ps_ret pe_str)) pss_nil)
      (pss_one (ps_ret pe_non)))))), ?_⟩
    refine ⟨.ref t, rfl, .ref t, .ty "tuple", _, _, true, rfl, .ty "tuple", .base (.tup ht), kit_ty (by decide +kernel), true, rfl, iteF ?_⟩
    refine ⟨.ref t, rfl, t, _, rfl, .inr (.inl (.inl ht)), rfl, _, rfl, ?_⟩
    show if (!decide (V.int 2 = V.int 2)) = true then _ else _
    rw [decide_eq_true rfl]
    refine iteF ?_
    refine ⟨.ref t, rfl, t, _, rfl, .inl (.inl ht), rfl, _, _, rfl, _, _, rfl, rfl, ?_⟩
    have gn : Good K H (.str n) := Good.str (name_sm h1)
    refine ⟨.str n, rfl, .str n, rfl, gn, fun H1 s1 => ⟨_, rfl, ?_⟩⟩
    rw [h1]
    refine iteF ?_
    refine ⟨.str n, rfl, .ref d, rfl, d, _, rfl, DGet.k (k := Sum.inr n) (s1 _ _ hd), _, rfl, ?_⟩
    rw [h2]
    refine iteF ?_
    refine ⟨.ref sA, rfl, .ref d, rfl, sA, d, ss, kvs, rfl, s1 _ _ hs, s1 _ _ hd, h5, fun H2 s2 => ⟨_, rfl, ?_⟩⟩
    have e : areV kvs ss = true := by
      unfold areV
      rw [Bool.and_eq_true, List.all_eq_true]
      exact ⟨h3, decide_eq_true (met_nodup h4 _ (Nat.le_refl _))⟩
    rw [e]
    exact iteF (q _ (s1.trans s2))
def spAnc : Sp := fun vs H Q _ => ∃ (n : Str) (a u : Addr) (ss : List Str) (kvs : List (Key × V)) (tab : Tab), vs = [.str n, .ref a, .ref u] ∧ H a = some (.tup (ss.map V.str)) ∧
  H u = some (.dK kvs) ∧ Entries H kvs tab ∧ TabOk tab ∧ tab.length ≤ 100 ∧ (∀ x ∈ ss, x ∈ tabKeys tab) ∧
  ∀ H' F, Same H H' → H F = none → H' F = some (.dK (flag (ancOf tab n ss))) → Q (.ref F) H'
theorem ok_anc {f : Addr} {fd : FuncData} {k : Nat} (F : Fun K "ancestors_of" "ancestors_of" sAnc f fd) :
    FnOk P w K mg base CX0 (k + 1) f fd ["name", "superclasses", "above"] spAnc := by
  refine F.ok scAnc (fun vs H Q E h => ?_) (fun cdv A outer s H vs Q E hr h => ?_)
  · obtain ⟨n, a, u, ss, kvs, tab, rfl, _⟩ := h
    rfl
  · obtain ⟨n, a, u, ss, kvs, tab, rfl, ha, hU, he, hok, hlen, hss, q⟩ := h
    have hu := hu_of hr
    refine ⟨_, pss_cons (ps_set (i := 3) scAnc.nd rfl (.inl rfl) (pe_disp (pps_cons (pv 0) pe_bl pps_nil) (by rfl) (by rfl) (fun z => by cases z) (by decide)))
      (pss_cons (ps_for PassesOwn.never rfl (pi_tup (pv 1)) (pg_name (i := 4) scAnc.nd rfl (.inl rfl))
        (pss_one (ps_lock (ps_for PassesOwn.never rfl (pi_keys (pe_dget hu (pv 2) (pv 4) (fun _ _ => rfl))) (pg_name (i := 5) scAnc.nd rfl (.inl rfl))
          (pss_one (ps_dput hu (pv 3) (pv 5) pe_bl rfl))))))
      (pss_one (ps_ret (pv 3)))), ?_⟩
    refine fun D nD => ⟨.str n, rfl, upd_same, [(Sum.inr n, .bl true)], rfl, (by decide : 1 ≤ 15), ?_⟩
    have sD := same_new2 (o := .dK []) (u := .dK (flag [n])) nD
    have nDu : u ≠ D := ne_of_none hU nD
    refine ⟨.ref a, rfl, a, rfl, ⟨_, .inl (.inl (sD _ _ ha))⟩, ?_⟩
    refine for_tup (xs := ss.map V.str) (fun i σ H3 => ∃ y4 y5 : Option V, σ = [some (.str n), some (.ref a), some (.ref u), some (.ref D), y4, y5] ∧ H3 D = some (.dK (flag (ancAt tab n ss i))) ∧ Same H H3)
      ⟨none, none, rfl, upd_same, sD⟩ (fun i σ H3 _ hP => ?_) (fun i v σ H3 hv hP => ?_) (fun σ H3 hP => ?_)
    · obtain ⟨_, _, _, _, s3⟩ := hP
      exact .inl (.inl (s3 _ _ ha))
    · obtain ⟨y4, y5, rfl, eD, s3⟩ := hP
      rw [List.getElem?_map] at hv
      obtain ⟨x, hx, rfl⟩ : ∃ x, ss[i]? = some x ∧ v = .str x := by
        cases hz : ss[i]? with
        | none =>
          rw [hz] at hv
          cases hv
        | some x =>
          rw [hz] at hv
          exact ⟨x, rfl, (Option.some.inj hv).symm⟩
      have hxk := hss x (List.mem_of_getElem? hx)
      obtain ⟨d, hval, hd⟩ := he.look hxk
      have nDd : d ≠ D := ne_of_none hd nD
      have nud : u ≠ d := by
        intro z
        rw [← z, hU] at hd
        cases Option.some.inj hd
        rw [valV_flag] at hval
        split at hval <;> cases hval
      have d3 := s3 _ _ hd
      refine ⟨d, _, d3, trivial, fun od => ?_⟩
      have u3 : (upd H3 d (.frz od (.dK (flag (look tab x))))) u = some (.dK kvs) := by
        rw [upd_ne nud]
        exact s3 _ _ hU
      have gg := DGet.k (k := Sum.inr x) u3
      rw [hval] at gg
      refine ⟨.ref u, rfl, .str x, rfl, u, .ref d, rfl, gg, d, od, rfl, .inl ⟨_, upd_same, ?_⟩⟩
      refine for_it walk_keys (fun j σ H4 => ∃ y5 : Option V, σ = [some (.str n), some (.ref a), some (.ref u), some (.ref D), some (.str x), y5] ∧ H4 D = some (.dK (flag (addAll (ancAt tab n ss i) ((look tab x).take j)))) ∧
          H4 d = some (.frz od (.dK (flag (look tab x)))) ∧ ∀ b o, b ≠ d → H b = some o → H4 b = some o)
        ⟨y5, rfl, by rw [upd_ne nDd.symm]; exact eD, upd_same, fun b o nb hb => by rw [upd_ne nb]; exact s3 _ _ hb⟩ (fun j σ H4 _ hP => ?_) (fun j v σ H4 H5 hj hP hY => ?_) (fun σ H4 hP => ?_)
      · obtain ⟨_, _, _, e, _⟩ := hP
        exact e
      · obtain ⟨y5, rfl, e1, e2, e3⟩ := hP
        obtain ⟨rfl, k', v', hk, rfl⟩ := hY
        obtain ⟨z, hz, rfl⟩ : ∃ z, (look tab x)[j]? = some z ∧ k' = Sum.inr z := by
          unfold flag at hk
          rw [List.getElem?_map] at hk
          cases hz : (look tab x)[j]? with
          | none =>
            rw [hz] at hk
            cases hk
          | some z =>
            rw [hz] at hk
            cases hk
            exact ⟨z, rfl, rfl⟩
        have ln : (addAll (ancAt tab n ss i) ((look tab x).take j)).length ≤ (n :: tabKeys tab).length := by
          refine nodup_le (addAll_nodup ancOf_nodup) fun y hy => ?_
          rcases mem_addAll.mp hy with g | g
          · rcases mem_ancOf.mp g with rfl | ⟨s', _, g2⟩
            · exact List.mem_cons_self ..
            · exact List.mem_cons_of_mem _ (look_sub hok g2)
          · exact List.mem_cons_of_mem _ (look_sub hok (List.mem_of_mem_take g))
        have lt : (tabKeys tab).length = tab.length := List.length_map _
        rw [List.length_cons, lt] at ln
        refine ⟨.ref D, rfl, .str z, rfl, D, _, rfl, DPut.k (k := Sum.inr z) e1 (by rw [flag_len]; exact sz1 (by omega)), ?_⟩
        refine ⟨_, rfl, ?_, ?_, ?_⟩
        · rw [upd_same, put_flag, addAll_take _ hz]
        · rw [upd_ne nDd]
          exact e2
        · intro b o nb hb
          rw [upd_ne (ne_of_none hb nD)]
          exact e3 b o nb hb
      · obtain ⟨y5, rfl, e1, e2, e3⟩ := hP
        refine ⟨e2, _, _, rfl, ?_, ?_⟩
        · rw [upd_ne nDd.symm, e1, flag_len, List.take_length, ancAt_next hx]
        · intro b o hb
          by_cases z : b = d
          · subst z
            rw [upd_same, ← hd]
            exact hb
          · rw [upd_ne z]
            exact e3 b o z hb
    · obtain ⟨y4, y5, rfl, eD, s3⟩ := hP
      have et : ss.take (ss.map V.str).length = ss := by
        rw [List.length_map, List.take_length]
      unfold ancAt at eD
      rw [et] at eD
      exact ⟨.ref D, rfl, q _ D s3 nD eD⟩
end
end Lw
/-! A hierarchy as an object. -/
namespace Kv
open PySem PySem.Spec PyProof.Rows L2
def flds (r q u : Addr) : List (Str × V) := putF "above" (.ref u) (putF "places" (.ref q) (putF "rows" (.ref r) []))
theorem f1 : ¬ (("rows" : Str) = "above") := by decide +kernel
theorem f2 : ¬ (("rows" : Str) = "places") := by decide +kernel
theorem f3 : ¬ (("places" : Str) = "above") := by decide +kernel
theorem flds_rows (r q u : Addr) : (flds r q u).lookup ("rows" : Str) = some (.ref r) := by
  unfold flds
  rw [lookup_putF, if_neg f1, lookup_putF, if_neg f2, lookup_putF, if_pos rfl]
theorem flds_places (r q u : Addr) : (flds r q u).lookup ("places" : Str) = some (.ref q) := by
  unfold flds
  rw [lookup_putF, if_neg f3, lookup_putF, if_pos rfl]
theorem flds_above (r q u : Addr) : (flds r q u).lookup ("above" : Str) = some (.ref u) := by
  unfold flds
  rw [lookup_putF, if_pos rfl]
theorem flds_no (r q u : Addr) {m : Str} (h1 : ¬ m = "above") (h2 : ¬ m = "places") (h3 : ¬ m = "rows") : (flds r q u).lookup m = none := by
  unfold flds
  rw [lookup_putF, if_neg h1, lookup_putF, if_neg h2, lookup_putF, if_neg h3]
  rfl
theorem two_flds (r q : Addr) : (putF "places" (V.ref q) (putF "rows" (V.ref r) [])).length < 1000 := by
  show (if ("rows" : Str) = "places" then [(("rows" : Str), V.ref q)] else (("rows" : Str), V.ref r) :: putF "places" (V.ref q) []).length < 1000
  rw [if_neg f2]
  show 2 < 1000
  decide
/-- the hierarchy of these rows stands at x -/
structure HierAt (C : Addr) (H : Hp) (x : Addr) (rows : List Row2) : Prop where
  ex : ∃ (dx r q u : Addr) (rvs : List V) (kvs : List (Key × V)), H x = some (.ins C dx (flds r q u)) ∧ H r = some (.lst rvs) ∧ RowsAre H rvs rows ∧
    H q = some (.dK (placeKV (fsts rows))) ∧ H u = some (.dK kvs) ∧ Entries H kvs (ancTab rows)
theorem HierAt.same {C : Addr} {H H' : Hp} {x : Addr} {rows : List Row2} (h : HierAt C H x rows) (s : Same H H') : HierAt C H' x rows := by
  obtain ⟨dx, r, q, u, rvs, kvs, h1, h2, h3, h4, h5, h6⟩ := h.ex
  exact ⟨dx, r, q, u, rvs, kvs, s _ _ h1, s _ _ h2, h3.same s, s _ _ h4, s _ _ h5, h6.mono fun d as e => s _ _ e⟩
theorem RowAt.wrX {H : Hp} {R : Addr} {o0 o : HO} (h : H R = some o0) (hn : ∀ xs, HO.tup xs ≠ o0) {v : V} {r : Row2} (a : RowAt H v r) : RowAt (upd H R o) v r := by
  obtain ⟨t, u, e, h1, h2⟩ := a
  exact ⟨t, u, e, by rw [upd_ne (ne_of h1 h (hn _))]; exact h1, by rw [upd_ne (ne_of h2 h (hn _))]; exact h2⟩
theorem RowsAre.wrX {H : Hp} {R : Addr} {o0 o : HO} (h : H R = some o0) (hn : ∀ xs, HO.tup xs ≠ o0) {vs : List V} {rows : List Row2} (a : RowsAre H vs rows) : RowsAre (upd H R o) vs rows :=
  Paired.mapP a fun _ _ z => z.wrX h hn
theorem RowAt.butX {H H' : Hp} {x : Addr} {o0 : HO} (h : H x = some o0) (hn : ∀ xs, HO.tup xs ≠ o0) (b : But x H H') {v : V} {r : Row2} (a : RowAt H v r) : RowAt H' v r := by
  obtain ⟨t, u, e, h1, h2⟩ := a
  exact ⟨t, u, e, b _ _ (ne_of h1 h (hn _)) h1, b _ _ (ne_of h2 h (hn _)) h2⟩
theorem Entries.wr {H : Hp} {R : Addr} {o : HO} : ∀ {kvs : List (Key × V)} {tab : Tab}, Entries H kvs tab → (∀ kv ∈ kvs, kv.2 ≠ .ref R) → Entries (upd H R o) kvs tab
  | _, _, .nil, _ => .nil
  | p :: r, _, .cons ⟨e1, d, e2, e3⟩ t, h => by
    have hd : d ≠ R := fun z => h p (List.mem_cons_self ..) (by rw [e2, z])
    exact .cons ⟨e1, d, e2, by rw [upd_ne hd]; exact e3⟩ (Entries.wr t fun kv hk => h kv (List.mem_cons_of_mem _ hk))
theorem tyL {K : PySem.W.Frag} {H : Hp} {a : Addr} {xs : List V} (h : SqL K H a xs) : TyX K H (.ref a) (.type "list") := by
  rcases h with (h | ⟨o, h⟩) | ⟨o, its, n, hk, hc, _⟩
  · exact .base (.lst h)
  · exact .base (.frz h)
  · exact .kList hk hc
theorem tyT {K : PySem.W.Frag} {H : Hp} {a : Addr} {xs : List V} (h : SqT K H a xs) : TyX K H (.ref a) (.type "tuple") := by
  rcases h with (h | ⟨o, h⟩) | ⟨o, its, n, hk, hc, _⟩
  · exact .base (.tup h)
  · exact .fTuple h
  · exact .kTuple hk hc
theorem sqL_but {K : PySem.W.Frag} {H H' : Hp} {x c : Addr} {us : List V} {C dx : Addr} {fs : List (Str × V)} (h : SqL K H c us) (hx : H x = some (.ins C dx fs)) (b : But x H H') : SqL K H' c us := by
  rcases h with (h | ⟨o, h⟩) | h
  · exact .inl (.inl (b _ _ (ne_of h hx (by intro z; cases z)) h))
  · exact .inl (.inr ⟨o, b _ _ (ne_of h hx (by intro z; cases z)) h⟩)
  · exact .inr h
theorem sqT_but {K : PySem.W.Frag} {H H' : Hp} {x c : Addr} {us : List V} {C dx : Addr} {fs : List (Str × V)} (h : SqT K H c us) (hx : H x = some (.ins C dx fs)) (b : But x H H') : SqT K H' c us := by
  rcases h with (h | ⟨o, h⟩) | h
  · exact .inl (.inl (b _ _ (ne_of h hx (by intro z; cases z)) h))
  · exact .inl (.inr ⟨o, b _ _ (ne_of h hx (by intro z; cases z)) h⟩)
  · exact .inr h
theorem sqT_same {K : PySem.W.Frag} {H H' : Hp} {c : Addr} {us : List V} (h : SqT K H c us) (s : Same H H') : SqT K H' c us := by
  rcases h with (h | ⟨o, h⟩) | h
  · exact .inl (.inl (s _ _ h))
  · exact .inl (.inr ⟨o, s _ _ h⟩)
  · exact .inr h
/-- enumerate over a tuple, as a walk -/
theorem walk_enumT {K : PySem.W.Frag} {a : Addr} {xs : List V} : Walk (Itet K a) xs.length (fun H => SqT K H a xs) (YPair (fun i => some (.int (i : Nat))) (fun i => xs[i]?)) := by
  refine ⟨fun i H hi q => ⟨xs, xs[i], q, by simp [hi]⟩, fun H q => ⟨xs, q, rfl⟩, fun i H v H2 hi q y => ?_⟩
  obtain ⟨T, x, e1, e2, e3, e4⟩ := y
  exact ⟨T, .int (i : Nat), x, e1, e2, e3, rfl, e4 xs q⟩
/-- what the walk asks of the class Hierarchy -/
structure HTxt (K : PySem.W.Frag) (mg : Str → Option Value) (C : Addr) : Prop where
  cl : Cls K C
  nR : NoAttr K C "rows"
  nP : NoAttr K C "places"
  nA : NoAttr K C "above"
  mgC : mg "Hierarchy" = some (.ref C)
  lim : ∃ mc u, ClX.CRead K C mc ∧ ClX.CVal K C mc "LIMIT" (.int 20) u
end Kv
namespace Lw
open PySem PySem.Spec PyProof.Rows L2 Kv
theorem scInit : FnScope ["self", "classes", "position", "row", "problem", "name", "superclasses"] ["self", "classes"] (defScope m_init) :=
  ⟨rfl, rfl, rfl, by decide +kernel, rfl, by decide +kernel, by decide +kernel⟩
section
variable {P : Program} {w : World} {K : PySem.W.Frag} {mg : Str → Option Value} {base : Heap}
def spInit (K : PySem.W.Frag) (C : Addr) : Sp := fun vs H Q _ => ∃ (x dx c : Addr) (us : List V) (rows : List Row2), vs = [.ref x, .ref c] ∧ H x = some (.ins C dx []) ∧
  (SqL K H c us ∨ (SqT K H c us ∧ us = [])) ∧ RowsAre H us rows ∧ Valid rows ∧ rows.length ≤ 20 ∧
  ∀ H', HierAt C H' x rows → But x H H' → Q .non H'
theorem ok_init {f fP fA C : Addr} {fd fdP fdA : FuncData} {k : Nat} {dvs : List V} (F : FunD K "__init__" "Hierarchy.__init__" (defArgs m_init) (defBody m_init) (defScope m_init) dvs [] f fd) (T : HTxt K mg C)
    (FP : Fun K "row_problem" "row_problem" sProb fP fdP) (bP : Binds K fdP ["row", "known"] []) (gP : mg "row_problem" = some (.ref fP))
    (FA : Fun K "ancestors_of" "ancestors_of" sAnc fA fdA) (bA : Binds K fdA ["name", "superclasses", "above"] []) (gA : mg "ancestors_of" = some (.ref fA))
    (GP : FnOk P w K mg base CX0 (k + 2) fP fdP ["row", "known"] spProb) (GA : FnOk P w K mg base CX0 (k + 1) fA fdA ["name", "superclasses", "above"] spAnc)
    (mi : mg "isinstance" = none) (mT : mg "tuple" = none) (mL : mg "list" = none) (me : mg "enumerate" = none) (ml : mg "len" = none) :
    FnOk P w K mg base CX0 (k + 3) f fd ["self", "classes"] (spInit K C) := by
  refine F.ok scInit (fun vs H Q E h => ?_) (fun cdv A outer s H vs Q E hr h => ?_)
  · obtain ⟨x, dx, c, us, rows, rfl, _⟩ := h
    rfl
  · obtain ⟨x, dx, c, us, rows, rfl, hx, hc, hra, hva, hlen, fin⟩ := h
    have hu := hu_of hr
    have hrA := hr.mono (by omega : k + 1 ≤ k + 2)
    refine ⟨_, PSs.nox (pss_cons (ps_if (pt_not (pt_val (pe_callB call_isiT (by rfl) mi (by decide +kernel) (pa_cons (pv 1)
          (pa_cons (pe_tup (pa_cons (pe_bltn (v := .ty "list") (by rfl) mL (by decide +kernel : bootBuiltins "list" = some (.type "list")) rfl)
            (pa_cons (pe_bltn (v := .ty "tuple") (by rfl) mT (by decide +kernel : bootBuiltins "tuple" = some (.type "tuple")) rfl) pa_nil))) pa_nil))))) (pss_one ps_never) pss_nil)
      (pss_cons (ps_fld (pv 0) (pe_lst pa_nil) rfl)
      (pss_cons (ps_fld (pv 0) pe_dnewK rfl)
      (pss_cons (ps_fld (pv 0) pe_dnewK rfl)
      (pss_cons (ps_for PassesOwn.never rfl (pi_enumS (by rfl) me (pa_cons (pv 1) pa_nil))
          (pg_tup rfl (pgs_cons (pg_name (i := 2) scInit.nd rfl (.inl rfl)) (pgs_cons (pg_name (i := 3) scInit.nd rfl (.inl rfl)) pgs_nil)))
        (pss_cons (ps_set (i := 4) scInit.nd rfl (.inl rfl) (pe_call GP hr (by rfl) gP FP.kp bP .nil pass0 (pa_cons (pv 3) (pa_cons (pe_fld (pv 0) rfl) pa_nil))))
        (pss_cons (ps_if (pt_cmpR op_notN (pv 4) pe_non (nomark _)) (pss_one ps_never) pss_nil)
        (pss_cons (ps_asg (pv 3) (pg_tup (by rfl) (pgs_cons (pg_name (i := 5) scInit.nd rfl (.inl rfl)) (pgs_cons (pg_name (i := 6) scInit.nd rfl (.inl rfl)) pgs_nil))))
        (pss_cons (ps_expr (pe_bm PySem.F.plainAttrs_list PySem.F.slot_list_append PySem.F.type_list_append mt_append (pe_fld (pv 0) rfl)
            (pa_cons (pe_tup (pa_cons (pv 5) (pa_cons (pv 6) pa_nil))) pa_nil)))
        (pss_cons (ps_dput hu (pe_fld (pv 0) rfl) (pv 5) (pv 2) rfl)
        (pss_one (ps_dput hu (pe_fld (pv 0) rfl) (pv 5) (pe_call GA hrA (by rfl) gA FA.kp bA .nil pass0 (pa_cons (pv 5) (pa_cons (pv 6) (pa_cons (pe_fld (pv 0) rfl) pa_nil)))) rfl))))))))
      (pss_one (ps_if (pt_cmpR op_gt (pe_callB call_len_seq (by rfl) ml PySem.boot_len (pa_cons (pe_fld (pv 0) rfl) pa_nil)) (ClX.pe_cval (pe_glob (v := .ref C) (by rfl) T.mgC rfl)) (nomark _)) (pss_one ps_never) pss_nil))))))), ?_⟩
    obtain ⟨T0, hty, hkit⟩ : ∃ T0 : String, (∀ H', Same H H' → TyX K H' (.ref c) (.type T0)) ∧ PySem.W.kitAny K (.type T0) [.type "list", .type "tuple"] = some true := by
      rcases hc with hc | ⟨hc, _⟩
      · exact ⟨"list", fun H' s' => tyL (s'.seq hc), kitAny_cons (kit_ty (by decide +kernel : kitB "list" "list" = some true)) (fun z => nomatch z) (fun _ => rfl)⟩
      · exact ⟨"tuple", fun H' s' => tyT (sqT_same hc s'), kitAny_cons (kit_ty (by decide +kernel : kitB "tuple" "list" = some false))
          (fun _ => kitAny_cons (kit_ty (by decide +kernel : kitB "tuple" "tuple" = some true)) (fun z => nomatch z) (fun _ => rfl)) (fun z => nomatch z)⟩
    refine ⟨.ref c, rfl, (by decide : 2 ≤ sizeLine), fun tp ntp => ?_⟩
    have s0 := same_new (o := .tup [.ty "list", .ty "tuple"]) ntp
    refine ⟨.ref c, tp, [.ty "list", .ty "tuple"], _, [.type "list", .type "tuple"], true, rfl, upd_same, .cons (.ty _) (.cons (.ty _) .nil), hty _ s0, hkit, true, rfl, iteF ?_⟩
    have x0 := s0 _ _ hx
    refine ⟨(by decide : 0 ≤ sizeLine), fun r nr => ?_⟩
    have nxr : x ≠ r := ne_of_none x0 nr
    refine ⟨.ref x, rfl, x, C, dx, [], rfl, (by rw [upd_ne nxr]; exact x0), T.cl, T.nR, (by show 0 < 1000; decide), ?_⟩
    intro q nq
    have nxq : x ≠ q := ne_of_none upd_same nq
    have nrq : r ≠ q := ne_of_none (o := .lst []) (by rw [upd_ne nxr.symm, upd_same]) nq
    refine ⟨.ref x, rfl, x, C, dx, _, rfl, (by rw [upd_ne nxq, upd_same]), T.cl, T.nP, (by show 1 < 1000; decide), ?_⟩
    intro u nu
    have nxu : x ≠ u := ne_of_none upd_same nu
    have nqu : q ≠ u := ne_of_none (o := .dK []) (by rw [upd_ne nxq.symm, upd_same]) nu
    have nru : r ≠ u := ne_of_none (o := .lst []) (by rw [upd_ne nxr.symm, upd_ne nrq, upd_ne nxr.symm, upd_same]) nu
    refine ⟨.ref x, rfl, x, C, dx, _, rfl, (by rw [upd_ne nxu, upd_same]), T.cl, T.nA, two_flds r q, ?_⟩
    have nr0 : H r = none := s0.free nr
    have nq0 : H q = none := by
      have : (upd (upd H tp (.tup [.ty "list", .ty "tuple"])) r (.lst [])) q = none := by
        rw [upd_ne nxq.symm] at nq
        exact nq
      exact s0.free ((same_new nr).free this)
    have nu0 : H u = none := by
      rw [upd_ne nxu.symm, upd_ne nqu.symm, upd_ne nxu.symm] at nu
      exact s0.free ((same_new nr).free nu)
    have P0 : ∃ (y2 y3 y4 y5 y6 : Option V) (rvs : List V) (kvs : List (Key × V)), ([some (.ref x), some (.ref c), none, none, none, none, none] : List (Option V)) = [some (.ref x), some (.ref c), y2, y3, y4, y5, y6] ∧
        (upd (upd (upd (upd (upd (upd (upd H tp (.tup [.ty "list", .ty "tuple"])) r (.lst [])) x (.ins C dx (putF "rows" (.ref r) []))) q (.dK [])) x (.ins C dx (putF "places" (.ref q) (putF "rows" (.ref r) [])))) u (.dK [])) x (.ins C dx (flds r q u))) x = some (.ins C dx (flds r q u)) := ⟨none, none, none, none, none, [], [], rfl, upd_same⟩
    clear P0
    generalize hG : (upd (upd (upd (upd (upd (upd (upd H tp (.tup [.ty "list", .ty "tuple"])) r (.lst [])) x (.ins C dx (putF "rows" (.ref r) []))) q (.dK [])) x (.ins C dx (putF "places" (.ref q) (putF "rows" (.ref r) [])))) u (.dK [])) x (.ins C dx (putF "above" (.ref u) (putF "places" (.ref q) (putF "rows" (.ref r) []))))) = G
    have gx : G x = some (.ins C dx (flds r q u)) := by
      rw [← hG]
      exact upd_same
    have gr : G r = some (.lst []) := by
      rw [← hG, upd_ne nxr.symm, upd_ne nru, upd_ne nxr.symm, upd_ne nrq, upd_ne nxr.symm, upd_same]
    have gq : G q = some (.dK []) := by
      rw [← hG, upd_ne nxq.symm, upd_ne nqu, upd_ne nxq.symm, upd_same]
    have gu : G u = some (.dK []) := by
      rw [← hG, upd_ne nxu.symm, upd_same]
    have gb : But x H G := by
      intro b o nb hb
      rw [← hG, upd_ne nb, upd_ne (ne_of_none hb nu0), upd_ne nb, upd_ne (ne_of_none hb nq0), upd_ne nb, upd_ne (ne_of_none hb nr0)]
      exact s0 _ _ hb
    clear hG
    obtain ⟨Pv, hPv⟩ : ∃ Pv : Nat → L2.St → Hp → Prop, Pv = fun i σ H4 => ∃ (y2 y3 y4 y5 y6 : Option V) (rvs : List V) (kvs : List (Key × V)), σ = [some (.ref x), some (.ref c), y2, y3, y4, y5, y6] ∧
        H4 x = some (.ins C dx (flds r q u)) ∧ H4 r = some (.lst rvs) ∧ RowsAre H4 rvs (rows.take i) ∧ H4 q = some (.dK (placeKV (fsts (rows.take i)))) ∧ H4 u = some (.dK kvs) ∧
        Entries H4 kvs (ancTab (rows.take i)) ∧ (∀ kv ∈ kvs, kv.2 ≠ .ref q ∧ kv.2 ≠ .ref u ∧ kv.2 ≠ .ref r) ∧ But x H H4 := ⟨_, rfl⟩
    have start : Pv 0 [some (.ref x), some (.ref c), none, none, none, none, none] G := by
      rw [hPv]
      exact ⟨none, none, none, none, none, [], [], rfl, gx, gr, .nil, gq, gu, .nil, fun kv h => (nomatch h), gb⟩
    have lenU : us.length = rows.length := hra.length
    refine ⟨.ref c, rfl, ?_⟩
    rcases hc with hc | ⟨hc, hemp⟩
    · refine .inl ⟨c, us, rfl, sqL_but hc hx gb, ?_⟩
      refine for_it (walk_enum (xs := us)) Pv start (fun i σ H4 _ hP => ?_) (fun i v σ H4 H5 hi hP hY => ?_) (fun σ H4 hP => ?_)
      · rw [hPv] at hP
        obtain ⟨_, _, _, _, _, _, _, _, _, _, _, _, _, _, _, b4⟩ := hP
        exact sqL_but hc hx b4
      · rw [hPv] at hP
        obtain ⟨y2, y3, y4, y5, y6, rvs, kvs, rfl, ex, er, era, eq, eu, een, ene, b4⟩ := hP
        obtain ⟨T5, a5, v5, rfl, nT5, rfl, ea5, ev5⟩ := hY
        cases Option.some.inj ea5
        obtain ⟨⟨n, ss⟩, hrow, hRA⟩ := hra.get ev5
        obtain ⟨t, sA, rfl, ht, hsA⟩ := id hRA
        obtain ⟨v1, v2, v3, v4⟩ := hva i n ss hrow
        have il : i < rows.length := by omega
        have s5 := same_new (o := .tup [.int (i : Nat), .ref t]) nT5
        have RA4 : RowAt H4 (.ref t) (n, ss) := hRA.butX hx (by intro xs z; cases z) b4
        have lf : (fsts (rows.take i)).length = i := by
          unfold fsts
          rw [List.length_map, List.length_take]
          omega
        have ssl : ss.length ≤ i := by
          have := nodup_le v3 v4
          omega
        refine ⟨T5, [.int (i : Nat), .ref t], rfl, .inl (.inl upd_same), rfl, _, _, rfl, _, _, rfl, rfl, ?_⟩
        -- problem
        refine ⟨.ref t, rfl, .ref x, rfl, x, C, dx, _, _, rfl, s5 _ _ ex, T.cl, T.nP, flds_places r q u, t, q, (n, ss), _, rfl, RA4.same s5, s5 _ _ eq, v1, ?_, ?_, v3, (by show ss.length ≤ 100; omega), fun H6 s6 => ?_⟩
        · have := place_val n (fsts (rows.take i))
          rw [decide_eq_false v2] at this
          exact Option.isNone_iff_eq_none.mp (by rw [← Option.not_isSome, this]; rfl)
        · intro y hy
          rw [place_val]
          exact decide_eq_true (v4 y hy)
        have vn : valV (placeKV (fsts (rows.take i))) (Sum.inr n : Key) = none := by
          have := place_val n (fsts (rows.take i))
          rw [decide_eq_false v2] at this
          exact Option.isNone_iff_eq_none.mp (by rw [← Option.not_isSome, this]; rfl)
        have s46 := s5.trans s6
        refine ⟨.non, rfl, rfl, _, rfl, iteF ?_⟩
        -- name, superclasses = row
        refine ⟨.ref t, rfl, t, _, rfl, .inl (.inl (b4.trans (But.of_same s46) t _ (ne_of ht hx (by intro z; cases z)) ht)), rfl, _, _, rfl, _, _, rfl, rfl, ?_⟩
        -- self.rows.append(..)
        have r6 := s46 _ _ er
        refine ⟨.ref x, rfl, x, C, dx, _, _, rfl, s46 _ _ ex, T.cl, T.nR, flds_rows r q u, .inl ⟨rfl, _, .inl (.inl r6)⟩, .str n, rfl, .ref sA, rfl, (by decide : 2 ≤ sizeLine), fun w7 n7 => ?_⟩
        have s7 := same_new (o := .tup [.str n, .ref sA]) n7
        have s47 := s46.trans s7
        have r7 := s47 _ _ er
        have lr : rvs.length = i := by
          have := era.length
          rw [List.length_take] at this
          omega
        refine ⟨r, rvs, _, rfl, rfl, r7, sz1 (by omega), ?_⟩
        have x8 : ∀ o, (upd (upd H6 w7 (.tup [.str n, .ref sA])) r o) x = some (.ins C dx (flds r q u)) := fun o => by
          rw [upd_ne nxr]
          exact s47 _ _ ex
        have q8 : ∀ o, (upd (upd H6 w7 (.tup [.str n, .ref sA])) r o) q = some (.dK (placeKV (fsts (rows.take i)))) := fun o => by
          rw [upd_ne nrq.symm]
          exact s47 _ _ eq
        have u8 : ∀ o, (upd (upd H6 w7 (.tup [.str n, .ref sA])) r o) u = some (.dK kvs) := fun o => by
          rw [upd_ne nru.symm]
          exact s47 _ _ eu
        -- self.places[name] = position
        refine ⟨.int (i : Nat), rfl, .ref x, rfl, x, C, dx, _, _, rfl, x8 _, T.cl, T.nP, flds_places r q u, .str n, rfl, q, _, rfl, DPut.k (k := Sum.inr n) (q8 _) (by rw [place_len]; exact sz1 (by omega)), ?_⟩
        rw [putK_new _ vn]
        generalize hM : upd (upd (upd H6 w7 (.tup [.str n, .ref sA])) r (.lst (rvs ++ [.ref w7]))) q (.dK (placeKV (fsts (rows.take i)) ++ [(Sum.inr n, .int (i : Nat))])) = M
        have mx : M x = some (.ins C dx (flds r q u)) := by
          rw [← hM, upd_ne nxq]
          exact x8 _
        have mr : M r = some (.lst (rvs ++ [.ref w7])) := by
          rw [← hM, upd_ne nrq, upd_same]
        have mq : M q = some (.dK (placeKV (fsts (rows.take i)) ++ [(Sum.inr n, .int (i : Nat))])) := by
          rw [← hM, upd_same]
        have mu : M u = some (.dK kvs) := by
          rw [← hM, upd_ne nqu.symm]
          exact u8 _
        have mra : RowsAre M (rvs ++ [.ref w7]) (rows.take i ++ [(n, ss)]) := by
          rw [← hM]
          refine RowsAre.wrX (q8 _) (by intro xs z; cases z) (RowsAre.wrX r7 (by intro xs z; cases z) ?_)
          refine RowsAre.snoc (era.same s47) ⟨w7, sA, rfl, upd_same, ?_⟩
          exact s47 _ _ (b4 _ _ (ne_of hsA hx (by intro z; cases z)) hsA)
        have men : Entries M kvs (ancTab (rows.take i)) := by
          rw [← hM]
          refine Entries.wr (Entries.wr (een.mono fun d as e => s47 _ _ e) fun kv hk => (ene kv hk).2.2) fun kv hk => (ene kv hk).1
        have mb : But x H M := by
          intro b o nb hb
          rw [← hM, upd_ne (ne_of_none hb nq0), upd_ne (ne_of_none hb nr0)]
          exact s47 _ _ (b4 _ _ nb hb)
        clear hM
        have msA := mb _ _ (ne_of hsA hx (by intro z; cases z)) hsA
        -- ancestors_of(name, superclasses, self.above)
        refine ⟨.str n, rfl, .ref sA, rfl, .ref x, rfl, x, C, dx, _, _, rfl, mx, T.cl, T.nA, flds_above r q u, n, sA, u, ss, kvs, ancTab (rows.take i), rfl, msA, mu, men, ancTab_ok rows i, ?_, ?_, fun H9 F9 s9 nF9 eF9 => ?_⟩
        · have := ancTab_keys (rows.take i)
          have e2 := congrArg List.length this
          unfold tabKeys at e2
          rw [List.length_map, lf] at e2
          omega
        · intro y hy
          rw [ancTab_keys]
          exact v4 y hy
        have kl : kvs.length = i := by
          have h1 := men.length
          have := ancTab_keys (rows.take i)
          have e2 := congrArg List.length this
          unfold tabKeys at e2
          rw [List.length_map, lf] at e2
          omega
        have kn : valV kvs (Sum.inr n : Key) = none := men.none (by rw [ancTab_keys]; exact v2)
        refine ⟨.ref x, rfl, x, C, dx, _, _, rfl, s9 _ _ mx, T.cl, T.nA, flds_above r q u, .str n, rfl, u, _, rfl, DPut.k (k := Sum.inr n) (s9 _ _ mu) (sz1 (by omega)), ?_⟩
        rw [putK_new _ kn, hPv]
        have tk1 : rows.take (i + 1) = rows.take i ++ [(n, ss)] := by
          rw [List.take_add_one, hrow]
          rfl
        refine ⟨_, _, _, _, _, rvs ++ [.ref w7], kvs ++ [(Sum.inr n, .ref F9)], rfl, ?_, ?_, ?_, ?_, upd_same, ?_, ?_, ?_⟩
        · rw [upd_ne nxu]
          exact s9 _ _ mx
        · rw [upd_ne nru]
          exact s9 _ _ mr
        · rw [tk1]
          exact RowsAre.wrX (s9 _ _ mu) (by intro xs z; cases z) (mra.same s9)
        · rw [upd_ne nqu, tk1, fsts_snoc, place_snoc, lf]
          exact s9 _ _ mq
        · rw [tk1, ancTab_snoc]
          refine Entries.wr (Entries.snoc (men.mono fun d as e => s9 _ _ e) ⟨rfl, F9, rfl, eF9⟩) ?_
          intro kv hk
          rcases List.mem_append.mp hk with z | z
          · exact (ene kv z).2.1
          · rw [List.mem_singleton.mp z]
            intro z2
            cases z2
            rw [mu] at nF9
            cases nF9
        · intro kv hk
          rcases List.mem_append.mp hk with z | z
          · exact ene kv z
          · rw [List.mem_singleton.mp z]
            refine ⟨fun z2 => ?_, fun z2 => ?_, fun z2 => ?_⟩
            · cases z2
              rw [mq] at nF9
              cases nF9
            · cases z2
              rw [mu] at nF9
              cases nF9
            · cases z2
              rw [mr] at nF9
              cases nF9
        · intro b o nb hb
          rw [upd_ne (ne_of_none hb nu0)]
          exact s9 _ _ (mb _ _ nb hb)
      · rw [hPv] at hP
        obtain ⟨y2, y3, y4, y5, y6, rvs, kvs, rfl, ex, er, era, eq, eu, een, ene, b4⟩ := hP
        have tk : rows.take us.length = rows := List.take_of_length_le (by omega)
        rw [tk] at era eq een
        have lr := era.length
        obtain ⟨mc, ul, h1, h2⟩ := T.lim
        refine ⟨.ref x, rfl, x, C, dx, _, _, rfl, ex, T.cl, T.nR, flds_rows r q u, r, rvs, rfl, .inl (.inl (.inl er)), C, mc, .int 20, ul, rfl, h1, h2, _, _, rfl, rfl, _, rfl, ?_⟩
        rw [decide_eq_false (by omega : ¬ (rvs.length : Int) > 20)]
        exact iteF (fin _ ⟨dx, r, q, u, rvs, kvs, ex, er, era, eq, eu, een⟩ b4)
    · subst hemp
      have hr0 : rows = [] := List.eq_nil_of_length_eq_zero (by
        have : ([] : List V).length = 0 := rfl
        omega)
      refine .inr ⟨c, [], rfl, sqT_but hc hx gb, ?_⟩
      refine for_it (walk_enumT (xs := [])) Pv start (fun i σ H4 _ hP => ?_) (fun i v σ H4 H5 hi hP hY => ?_) (fun σ H4 hP => ?_)
      · rw [hPv] at hP
        obtain ⟨_, _, _, _, _, _, _, _, _, _, _, _, _, _, _, b4⟩ := hP
        exact sqT_but hc hx b4
      · exact absurd hi (Nat.not_lt_zero _)
      · rw [hPv] at hP
        obtain ⟨y2, y3, y4, y5, y6, rvs, kvs, rfl, ex, er, era, eq, eu, een, ene, b4⟩ := hP
        have tk : rows.take ([] : List V).length = rows := by
          rw [hr0]
          rfl
        rw [tk] at era eq een
        have lr := era.length
        obtain ⟨mc, ul, h1, h2⟩ := T.lim
        refine ⟨.ref x, rfl, x, C, dx, _, _, rfl, ex, T.cl, T.nR, flds_rows r q u, r, rvs, rfl, .inl (.inl (.inl er)), C, mc, .int 20, ul, rfl, h1, h2, _, _, rfl, rfl, _, rfl, ?_⟩
        rw [decide_eq_false (by omega : ¬ (rvs.length : Int) > 20)]
        exact iteF (fin _ ⟨dx, r, q, u, rvs, kvs, ex, er, era, eq, eu, een⟩ b4)
end
end Lw
/-! New lists do not lie where sys.modules lies. -/
namespace Kv
open PySem PySem.Spec PyProof.Rows L2
section
variable {X : Cx} {es : List Expr} {t : TA} {pos : Pos}
theorem new_low {pins : List (Addr × Obj)} {σ : L2.St} {H : Hp} {s : Shared} (low : sysModules < X.base.objs.size) (I : Inv X pins σ H s) : s.heap.objs.size ≠ sysModules := by
  have := I.ok.bsz
  have := I.sz
  intro z
  rw [z] at this
  exact absurd (Nat.lt_of_lt_of_le low (Nat.le_trans ‹X.base.objs.size ≤ _› this)) (Nat.lt_irrefl _)
/-- a list of written items, its place told apart -/
def tLstN (t : TA) : TE := fun σ H Q => t σ H fun xs H1 => xs.length ≤ sizeLine ∧ ∀ p, H1 p = none → p ≠ sysModules → Q (.ref p) (upd H1 p (.lst xs))
theorem pe_lstN (low : sysModules < X.base.objs.size) (h : PA X es t) : PE X (.List es pos) (tLstN t) := by
  constructor
  intro pins s σ H Q I hq
  refine wpAny_List_spliced (thn (h.run pos pins s σ H _ I hq) ?_)
  rintro us s1 ⟨xs, H1, I1, r, z, q⟩
  refine ⟨by rw [← r.length]; exact z, ?_⟩
  have hf : H1 s1.heap.objs.size = none := I1.hok.fresh (Nat.le_refl _)
  have ok : ObjOk X.prog X.w (upd H1 s1.heap.objs.size (.lst xs)) (s1.heap.push { cls := .type "list", data := .seq us.toArray }) s1.heap.objs.size (.lst xs) :=
    ⟨z, us, 0, r, Heap.get?_push_size _ rfl⟩
  exact ⟨.ref s1.heap.objs.size, _, I1.laid (t' := s1.toks) (fun b u e => Heap.get?_push_of_some _ e) (Nat.le_refl _) ok, rfl, q _ hf (new_low low I1)⟩
def rListN (K : PySem.W.Frag) : List V → Hp → VK → Prop := fun xs H Q => ∃ p ys, xs = [.ref p] ∧ SqL K H p ys ∧
  ∀ l, H l = none → l ≠ sysModules → Q (.ref l) (upd H l (.lst ys))
theorem call_listN (low : sysModules < X.base.objs.size) : CallR X (.type "list") (rListN X.K) := by
  intro pins s σ H xs us Q I r h
  obtain ⟨p, ys, rfl, hq, q⟩ := h
  obtain ⟨u, rfl, rx⟩ := vals1 r
  cases rx
  obtain ⟨its, rv, pl, hz⟩ := I.list hq
  have hlen := rv.length
  obtain ⟨o, ho, hc, n, hd⟩ := pl.isList
  refine call_list_seq p (.inl rfl) ho hc hd ?_ (by simp only [List.size_toArray]; omega)
  intro h2 c2 kp e
  have ok : ObjOk X.prog X.w (upd H s.heap.objs.size (.lst ys)) h2 s.heap.objs.size (.lst ys) := ⟨hz, its, c2, rv, e⟩
  exact ⟨.ref s.heap.objs.size, _, I.laid (t' := s.toks) kp (Nat.le_refl _) ok, rfl, q _ (I.hok.fresh (Nat.le_refl _)) (new_low low I)⟩
end
/-- a value that can be shown, dicts and lists in it -/
def GoodN (n m : Nat) (K : PySem.W.Frag) (H : Hp) (v : V) : Prop := ∃ d : PyData, Sh K false H v d ∧ Fit n m d
theorem GoodN.same {n m : Nat} {K : PySem.W.Frag} {H H' : Hp} {v : V} (g : GoodN n m K H v) (s : Same H H') : GoodN n m K H' v := by
  obtain ⟨d, h, r⟩ := g
  exact ⟨d, h.same s, r⟩
mutual
/-- the value v is the datum d, all in the heap; its lists lie where ok tells -/
inductive ShO (ok : Addr → Prop) (H : Hp) : V → PyData → Prop
  | non : ShO ok H .non .none
  | bl (b : Bool) : ShO ok H (.bl b) (.bool b)
  | int (i : Int) : ShO ok H (.int i) (.int i)
  | str (x : Str) : ShO ok H (.str x) (.str x)
  | lst {a : Addr} {xs : List V} {ds : List PyData} : H a = some (.lst xs) → ok a → ShOs ok H xs ds → ShO ok H (.ref a) (.list ds)
  | tup {a : Addr} {xs : List V} {ds : List PyData} : H a = some (.tup xs) → ShOs ok H xs ds → ShO ok H (.ref a) (.tuple ds)
  | dict {a : Addr} {kvs : List (Key × V)} {ks vs : List PyData} : H a = some (.dK kvs) → ShOs ok H (kvs.map fun p => kV p.1) ks →
      ShOs ok H (kvs.map fun p => p.2) vs → ShO ok H (.ref a) (.dict (ks.zip vs))
inductive ShOs (ok : Addr → Prop) (H : Hp) : List V → List PyData → Prop
  | nil : ShOs ok H [] []
  | cons {v : V} {vs : List V} {d : PyData} {ds : List PyData} : ShO ok H v d → ShOs ok H vs ds → ShOs ok H (v :: vs) (d :: ds)
end
mutual
theorem ShO.keep {ok : Addr → Prop} {H H' : Hp} (kL : ∀ a xs, ok a → H a = some (.lst xs) → H' a = some (.lst xs)) (kT : ∀ a xs, H a = some (.tup xs) → H' a = some (.tup xs))
    (kD : ∀ a xs, H a = some (.dK xs) → H' a = some (.dK xs)) : ∀ {v : V} {d : PyData}, ShO ok H v d → ShO ok H' v d
  | _, _, .non => .non
  | _, _, .bl b => .bl b
  | _, _, .int i => .int i
  | _, _, .str x => .str x
  | _, _, .lst h1 h2 h3 => .lst (kL _ _ h2 h1) h2 (ShOs.keep kL kT kD h3)
  | _, _, .tup h1 h3 => .tup (kT _ _ h1) (ShOs.keep kL kT kD h3)
  | _, _, .dict h1 h2 h3 => .dict (kD _ _ h1) (ShOs.keep kL kT kD h2) (ShOs.keep kL kT kD h3)
theorem ShOs.keep {ok : Addr → Prop} {H H' : Hp} (kL : ∀ a xs, ok a → H a = some (.lst xs) → H' a = some (.lst xs)) (kT : ∀ a xs, H a = some (.tup xs) → H' a = some (.tup xs))
    (kD : ∀ a xs, H a = some (.dK xs) → H' a = some (.dK xs)) : ∀ {vs : List V} {ds : List PyData}, ShOs ok H vs ds → ShOs ok H' vs ds
  | _, _, .nil => .nil
  | _, _, .cons h1 h2 => .cons (ShO.keep kL kT kD h1) (ShOs.keep kL kT kD h2)
end
theorem ShO.same {ok : Addr → Prop} {H H' : Hp} (s : Same H H') {v : V} {d : PyData} (h : ShO ok H v d) : ShO ok H' v d :=
  h.keep (fun _ _ _ e => s _ _ e) (fun _ _ e => s _ _ e) (fun _ _ e => s _ _ e)
theorem ShO.but {ok : Addr → Prop} {H H' : Hp} {p : Addr} {zs : List V} (hok : ∀ a, ok a → a ≠ p) (hp : H p = some (.lst zs)) (b : But p H H') {v : V} {d : PyData} (h : ShO ok H v d) : ShO ok H' v d :=
  h.keep (fun _ _ o e => b _ _ (hok _ o) e) (fun _ _ e => b _ _ (ne_of e hp (by intro z; cases z)) e) (fun _ _ e => b _ _ (ne_of e hp (by intro z; cases z)) e)
theorem ShOs.same {ok : Addr → Prop} {H H' : Hp} (s : Same H H') {v : List V} {d : List PyData} (h : ShOs ok H v d) : ShOs ok H' v d :=
  h.keep (fun _ _ _ e => s _ _ e) (fun _ _ e => s _ _ e) (fun _ _ e => s _ _ e)
theorem ShOs.but {ok : Addr → Prop} {H H' : Hp} {p : Addr} {zs : List V} (hok : ∀ a, ok a → a ≠ p) (hp : H p = some (.lst zs)) (b : But p H H') {v : List V} {d : List PyData} (h : ShOs ok H v d) : ShOs ok H' v d :=
  h.keep (fun _ _ o e => b _ _ (hok _ o) e) (fun _ _ e => b _ _ (ne_of e hp (by intro z; cases z)) e) (fun _ _ e => b _ _ (ne_of e hp (by intro z; cases z)) e)
theorem ShOs.snoc {ok : Addr → Prop} {H : Hp} : ∀ {vs : List V} {ds : List PyData} {v : V} {d : PyData}, ShOs ok H vs ds → ShO ok H v d → ShOs ok H (vs ++ [v]) (ds ++ [d])
  | _, _, _, _, .nil, h => .cons h .nil
  | _, _, _, _, .cons a b, h => .cons a (ShOs.snoc b h)
theorem ShOs.length {ok : Addr → Prop} {H : Hp} : ∀ {vs : List V} {ds : List PyData}, ShOs ok H vs ds → vs.length = ds.length
  | _, _, .nil => rfl
  | _, _, .cons _ t => by rw [List.length_cons, List.length_cons, t.length]
mutual
theorem ShO.sh {K : PySem.W.Frag} {ok : Addr → Prop} {H : Hp} (hok : ∀ a, ok a → a ≠ sysModules) : ∀ {v : V} {d : PyData}, ShO ok H v d → Sh K false H v d
  | _, _, .non => .non
  | _, _, .bl b => .bl b
  | _, _, .int i => .int i
  | _, _, .str x => .str x
  | _, _, .lst h1 h2 h3 => .lst (.inl (.inl h1)) (fun _ => hok _ h2) (ShOs.sh hok h3)
  | _, _, .tup h1 h3 => .tup (.inl (.inl h1)) (ShOs.sh hok h3)
  | _, _, .dict h1 h2 h3 => .dict rfl h1 (ShOs.sh hok h2) (ShOs.sh hok h3)
theorem ShOs.sh {K : PySem.W.Frag} {ok : Addr → Prop} {H : Hp} (hok : ∀ a, ok a → a ≠ sysModules) : ∀ {vs : List V} {ds : List PyData}, ShOs ok H vs ds → ShAll K false H vs ds
  | _, _, .nil => .nil
  | _, _, .cons h1 h2 => .cons (ShO.sh hok h1) (ShOs.sh hok h2)
end
/-- a hierarchy stays while a pot is drawn from -/
theorem HierAt.but {C : Addr} {H H' : Hp} {p x : Addr} {rows : List Row2} (hp : PotAt H p) (b : But p H H') (h : HierAt C H x rows) : HierAt C H' x rows := by
  obtain ⟨dx, r, q, u, rvs, kvs, h1, h2, h3, h4, h5, h6⟩ := h.ex
  obtain ⟨r0, g0, ep, _⟩ := id hp
  have nr : r ≠ p := by
    intro z
    rw [z, ep] at h2
    cases Option.some.inj h2
    cases h3 with
    | cons a _ =>
      obtain ⟨_, _, e, _⟩ := a
      cases e
  exact ⟨dx, r, q, u, rvs, kvs, b _ _ (ne_of h1 ep (by intro z; cases z)) h1, b _ _ nr h2, h3.but hp b, b _ _ (ne_of h4 ep (by intro z; cases z)) h4,
    b _ _ (ne_of h5 ep (by intro z; cases z)) h5, h6.mono fun d as e => b _ _ (ne_of e ep (by intro z; cases z)) e⟩
/-- where the lists of a drawn value lie -/
def Apart (p : Addr) : Addr → Prop := fun a => a ≠ p ∧ a ≠ sysModules
/-- a drawn value -/
def Drawn (n m : Nat) (p : Addr) (H : Hp) (v : V) : Prop := ∃ d : PyData, ShO (Apart p) H v d ∧ Fit n m d
theorem Drawn.same {n m : Nat} {p : Addr} {H H' : Hp} {v : V} (g : Drawn n m p H v) (s : Same H H') : Drawn n m p H' v := by
  obtain ⟨d, h, r⟩ := g
  exact ⟨d, h.same s, r⟩
theorem Drawn.but {n m : Nat} {p : Addr} {H H' : Hp} {v : V} (hp : PotAt H p) (b : But p H H') (g : Drawn n m p H v) : Drawn n m p H' v := by
  obtain ⟨d, h, r⟩ := g
  obtain ⟨r1, g1, e, _⟩ := hp
  exact ⟨d, h.but (fun _ z => z.1) e b, r⟩
theorem Drawn.mono {n m n' m' : Nat} {p : Addr} {H : Hp} {v : V} (g : Drawn n m p H v) (a : n ≤ n') (b : m ≤ m') : Drawn n' m' p H v := by
  obtain ⟨d, h, r⟩ := g
  exact ⟨d, h, r.mono a b⟩
theorem Drawn.good {n m : Nat} {K : PySem.W.Frag} {p : Addr} {H : Hp} {v : V} (g : Drawn n m p H v) : GoodN n m K H v := by
  obtain ⟨d, h, r⟩ := g
  exact ⟨d, h.sh (fun _ z => z.2), r⟩
theorem Drawn.non {n m : Nat} {p : Addr} {H : Hp} : Drawn n m p H .non := ⟨_, .non, fit_non.mono (Nat.zero_le _) (Nat.zero_le _)⟩
theorem Drawn.bl {n m : Nat} {p : Addr} {H : Hp} {b : Bool} : Drawn n m p H (.bl b) := ⟨_, .bl b, fit_bl.mono (Nat.zero_le _) (Nat.zero_le _)⟩
theorem Drawn.int {n m : Nat} {p : Addr} {H : Hp} {i : Int} (h : i.natAbs ≤ 10 ^ 60) (hn : 200 ≤ n := by decide) : Drawn n m p H (.int i) := ⟨_, .int i, (fit_int h).mono hn (Nat.zero_le _)⟩
theorem Drawn.str {n m k : Nat} {p : Addr} {H : Hp} {x : Str} (h : Sm k x) (hn : k ≤ n := by decide) : Drawn n m p H (.str x) := ⟨_, .str x, h.fit.mono hn (Nat.zero_le _)⟩
end Kv
namespace Lw
open PySem PySem.Spec PyProof.Rows L2 Kv
theorem scHas : FnScope ["self", "value"] ["self", "value"] (defScope m_has_class) :=
  ⟨rfl, rfl, rfl, by decide +kernel, rfl, by decide +kernel, by decide +kernel⟩
theorem scCount : FnScope ["value"] ["value"] (defScope sIsCount) :=
  ⟨rfl, rfl, rfl, by decide +kernel, rfl, by decide +kernel, by decide +kernel⟩
abbrev NPoint : List Str := ["hierarchy", "value", "name"]
theorem scPoint : FnScope NPoint ["hierarchy", "value"] (defScope sIsPoint) :=
  ⟨rfl, rfl, rfl, by decide +kernel, rfl, by decide +kernel, by decide +kernel⟩
def hasD (ns : List Str) : PyData → Bool
  | .str y => decide (y ∈ ns)
  | _ => false
def pointD (ns : List Str) : PyData → Bool
  | .tuple ds => (decide (1 ≤ ds.length) && decide (ds.length ≤ 3)) && ds.all (hasD ns)
  | _ => false
def countV : V → Bool
  | .int i => decide (1 ≤ i) && decide (i ≤ 3)
  | _ => false
theorem ShAll.get {K : PySem.W.Frag} {nd : Bool} {H : Hp} : ∀ {vs : List V} {ds : List PyData} {i : Nat} {v : V}, ShAll K nd H vs ds → vs[i]? = some v → ∃ d, ds[i]? = some d ∧ Sh K nd H v d
  | _, _, _, _, .nil, e => by simp at e
  | _, _, 0, _, .cons a _, e => by
    simp at e
    subst e
    exact ⟨_, rfl, a⟩
  | _, _, i + 1, v, .cons _ b, e => by
    obtain ⟨d, h1, h2⟩ := ShAll.get (i := i) (v := v) b (by simpa using e)
    exact ⟨d, by simpa using h1, h2⟩
section
variable {P : Program} {w : World} {K : PySem.W.Frag} {mg : Str → Option Value} {base : Heap}
def spHas (K : PySem.W.Frag) (C : Addr) : Sp := fun vs H Q _ => ∃ (x : Addr) (v : V) (d : PyData) (nd : Bool) (rows : List Row2), vs = [.ref x, v] ∧ HierAt C H x rows ∧ Sh K nd H v d ∧
  ∀ H', Same H H' → Q (.bl (hasD (fsts rows) d)) H'
theorem ok_has {f C : Addr} {fd : FuncData} {k : Nat} (F : Fun K "has_class" "Hierarchy.has_class" m_has_class f fd) (T : HTxt K mg C)
    (mi : mg "isinstance" = none) (ms : mg "str" = none) : FnOk P w K mg base CX0 (k + 1) f fd ["self", "value"] (spHas K C) := by
  refine F.ok scHas (fun vs H Q E h => ?_) (fun cdv A outer s H vs Q E hr h => ?_)
  · obtain ⟨x, v, d, nd, rows, rfl, _⟩ := h
    rfl
  · obtain ⟨x, v, d, nd, rows, rfl, ⟨dx, r, q, u, rvs, kvs, h1, h2, h3, h4, h5, h6⟩, sh, fin⟩ := h
    have hu := hu_of hr
    refine ⟨_, pss_one (ps_ret (pe_and (pe_callB call_isi (by rfl) mi (by decide +kernel) (pa_cons (pv 1)
          (pa_cons (pe_bltn (v := .ty "str") (by rfl) ms (by decide +kernel : bootBuiltins "str" = some (.type "str")) rfl) pa_nil)))
        (pe_one (pe_cmp (pc_din hu (pv 1) (pe_fld (pv 0) rfl)) rfl)))), ?_⟩
    obtain ⟨T0, ty, hT⟩ := sh.ty
    rcases hT with ⟨y, rfl, rfl⟩ | ⟨hne, hT⟩
    · refine ⟨.str y, rfl, .str y, .ty "str", _, _, true, rfl, .ty "str", ty, kit_ty (by decide +kernel), true, rfl, iteT ?_⟩
      refine ⟨.str y, rfl, .ref x, rfl, x, C, dx, _, _, rfl, h1, T.cl, T.nP, flds_places r q u, q, _, rfl, DGet.k (k := Sum.inr y) h4, ?_⟩
      rw [place_val]
      cases sh
      exact fin _ (Same.refl _)
    · have hk : kitB T0 "str" = some false := by
        rcases hT with rfl | rfl | rfl | rfl | rfl | rfl <;> decide +kernel
      have : hasD (fsts rows) d = false := by
        cases sh with
        | str y => exact absurd rfl (hne y)
        | _ => rfl
      have fin2 := fin H (Same.refl _)
      rw [this] at fin2
      exact ⟨v, rfl, v, .ty "str", _, _, false, rfl, .ty "str", ty, kit_ty hk, false, rfl, iteF fin2⟩
def spCount (K : PySem.W.Frag) : Sp := fun vs H Q _ => ∃ (v : V) (d : PyData) (nd : Bool), vs = [v] ∧ Sh K nd H v d ∧ Q (.bl (countV v)) H
theorem ok_count {f : Addr} {fd : FuncData} {k : Nat} {t1 : Tok} (F : Fun K "is_parameter_count" "is_parameter_count" sIsCount f fd)
    (mi : mg "isinstance" = none) (mI : mg "int" = none) (mB : mg "bool" = none) (g1 : mg "MAX_PARAMETERS" = some (.int 3 t1)) :
    FnOk P w K mg base CX0 (k + 1) f fd ["value"] (spCount K) := by
  refine F.ok scCount (fun vs H Q E h => ?_) (fun cdv A outer s H vs Q E hr h => ?_)
  · obtain ⟨v, d, nd, rfl, _⟩ := h
    rfl
  · obtain ⟨v, d, nd, rfl, sh, fin⟩ := h
    refine ⟨_, pss_one (ps_ret (pe_and (pe_callB call_isi (by rfl) mi (by decide +kernel) (pa_cons (pv 0)
          (pa_cons (pe_bltn (v := .ty "int") (by rfl) mI (by decide +kernel : bootBuiltins "int" = some (.type "int")) rfl) pa_nil)))
        (pe_and (pe_not (pe_callB call_isi (by rfl) mi (by decide +kernel) (pa_cons (pv 0)
          (pa_cons (pe_bltn (v := .ty "bool") (by rfl) mB (by decide +kernel : bootBuiltins "bool" = some (.type "bool")) rfl) pa_nil))))
        (pe_one (pe_chain op_le op_le pe_int (pv 0) (pe_glob (v := .int 3) (by rfl) g1 ⟨_, rfl⟩)))))), ?_⟩
    have no : ∀ T0 : String, TyX K H v (.type T0) → kitB T0 "int" = some false → Q (.bl false) H →
        (tAndV (tCB (rIsi K) (tCons (tVar 0) (tCons (tC (.ty "int")) tNil))) (tAndV (tNotV (tCB (rIsi K) (tCons (tVar 0) (tCons (tC (.ty "bool")) tNil))))
          (tChain (rI0 fun i j => .bl (decide (i ≤ j))) (rI0 fun i j => .bl (decide (i ≤ j))) (tC (.int 1)) (tVar 0) (tC (.int 3))))) (start ["value"] [v]) H Q := fun T0 ty hk z =>
      ⟨v, rfl, v, .ty "int", _, _, false, rfl, .ty "int", ty, kit_ty hk, false, rfl, iteF z⟩
    cases sh with
    | non => exact no "NoneType" (.base .non) (by decide +kernel) fin
    | str y => exact no "str" (.base (.str y)) (by decide +kernel) fin
    | lst h1 h2 h3 => exact no "list" (tyL h1) (by decide +kernel) fin
    | tup h1 h2 => exact no "tuple" (tyT h1) (by decide +kernel) fin
    | dict h0 h1 h2 h3 => exact no "dict" (.base (.dK h1)) (by decide +kernel) fin
    | bl b =>
      exact ⟨.bl b, rfl, .bl b, .ty "int", _, _, true, rfl, .ty "int", .base (.bl b), kit_ty (by decide +kernel : kitB "bool" "int" = some true), true, rfl, iteT
        ⟨.bl b, rfl, .bl b, .ty "bool", _, _, true, rfl, .ty "bool", .base (.bl b), kit_ty (by decide +kernel : kitB "bool" "bool" = some true), true, rfl, false, rfl, iteF fin⟩⟩
    | int i =>
      refine ⟨.int i, rfl, .int i, .ty "int", _, _, true, rfl, .ty "int", .base (.int i), kit_ty (by decide +kernel : kitB "int" "int" = some true), true, rfl, iteT
        ⟨.int i, rfl, .int i, .ty "bool", _, _, false, rfl, .ty "bool", .base (.int i), kit_ty (by decide +kernel : kitB "int" "bool" = some false), false, rfl, true, rfl, iteT ?_⟩⟩
      refine ⟨.int i, rfl, _, _, rfl, rfl, _, rfl, ite2 (fun e => ?_) (fun e => ?_)⟩
      · refine ⟨_, _, rfl, rfl, ?_⟩
        have : countV (.int i) = decide (i ≤ 3) := by
          show (decide (1 ≤ i) && decide (i ≤ 3)) = _
          rw [e, Bool.true_and]
        rw [this] at fin
        exact fin
      · have : countV (.int i) = false := by
          show (decide (1 ≤ i) && decide (i ≤ 3)) = _
          rw [Bool.eq_false_iff.mpr e, Bool.false_and]
        rw [this] at fin
        exact fin
def spPoint (K : PySem.W.Frag) (C : Addr) : Sp := fun vs H Q _ => ∃ (x : Addr) (v : V) (d : PyData) (nd : Bool) (rows : List Row2), vs = [.ref x, v] ∧ HierAt C H x rows ∧ Sh K nd H v d ∧
  ∀ H', Same H H' → Q (.bl (pointD (fsts rows) d)) H'
theorem ok_point {f fC fH C : Addr} {fd fdC fdH : FuncData} {k : Nat} (F : Fun K "is_point" "is_point" sIsPoint f fd) (T : HTxt K mg C)
    (FC : Fun K "is_parameter_count" "is_parameter_count" sIsCount fC fdC) (bC : Binds K fdC ["value"] []) (gC : mg "is_parameter_count" = some (.ref fC))
    (mH : Meth K C "has_class" fH) (bH : Binds K fdH ["self", "value"] [])
    (GC : FnOk P w K mg base CX0 (k + 1) fC fdC ["value"] (spCount K)) (GH : FnOk P w K mg base CX0 (k + 1) fH fdH ["self", "value"] (spHas K C))
    (mi : mg "isinstance" = none) (mT : mg "tuple" = none) (ml : mg "len" = none) (ma : mg "all" = none) :
    FnOk P w K mg base CX0 (k + 2) f fd ["hierarchy", "value"] (spPoint K C) := by
  refine F.ok scPoint (fun vs H Q E h => ?_) (fun cdv A outer s H vs Q E hr h => ?_)
  · obtain ⟨x, v, d, nd, rows, rfl, _⟩ := h
    rfl
  · obtain ⟨x, v, d, nd, rows, rfl, hH, sh, fin⟩ := h
    refine ⟨_, pss_cons (ps_if (PW.pt (pw_or (pt_not (pt_val (pe_callB call_isi (by rfl) mi (by decide +kernel) (pa_cons (pv 1)
          (pa_cons (pe_bltn (v := .ty "tuple") (by rfl) mT (by decide +kernel : bootBuiltins "tuple" = some (.type "tuple")) rfl) pa_nil)))))
          (pw_or1 (pt_not (pt_val (pe_call GC hr (by rfl) gC FC.kp bC .nil pass0 (pa_cons (pe_callB call_len_seq (by rfl) ml PySem.boot_len (pa_cons (pv 1) pa_nil)) pa_nil))))))) (pss_one (ps_ret pe_bl)) pss_nil)
      (pss_one (ps_ret (pe_callB (cr_all rfl) (by rfl) ma (by decide +kernel) (pa_cons
          (pe_lc (own := [("name", 2)]) (g := gName 2) (tt := tYes) rfl scPoint.nd (pi_tup (pv 1))
            (blkOk_by (own := [("name", 2)]) (N := NPoint) (sc := defScope sIsPoint) (by decide +kernel))
            (fun _ _ _ _ _ => pg_name (i := 2) scPoint.nd rfl (Or.inl rfl)) (fun _ _ _ _ _ => pts_nil)
            (fun _ _ _ _ _ => pe_meth (pv 0) T.cl mH GH hr bH .nil pass0 (pa_cons (pv 2) pa_nil))) pa_nil)))), ?_⟩
    cases sh with
    | non => exact ⟨.non, rfl, .non, .ty "tuple", _, _, false, rfl, .ty "tuple", .base .non, kit_ty (by decide +kernel : kitB "NoneType" "tuple" = some false), false, rfl, iteT (fin H (Same.refl _))⟩
    | bl b => exact ⟨.bl b, rfl, .bl b, .ty "tuple", _, _, false, rfl, .ty "tuple", .base (.bl b), kit_ty (by decide +kernel : kitB "bool" "tuple" = some false), false, rfl, iteT (fin H (Same.refl _))⟩
    | int i => exact ⟨.int i, rfl, .int i, .ty "tuple", _, _, false, rfl, .ty "tuple", .base (.int i), kit_ty (by decide +kernel : kitB "int" "tuple" = some false), false, rfl, iteT (fin H (Same.refl _))⟩
    | str y => exact ⟨.str y, rfl, .str y, .ty "tuple", _, _, false, rfl, .ty "tuple", .base (.str y), kit_ty (by decide +kernel : kitB "str" "tuple" = some false), false, rfl, iteT (fin H (Same.refl _))⟩
    | @lst a xs ds h1 h2 h3 => exact ⟨.ref a, rfl, .ref a, .ty "tuple", _, _, false, rfl, .ty "tuple", tyL h1, kit_ty (by decide +kernel : kitB "list" "tuple" = some false), false, rfl, iteT (fin H (Same.refl _))⟩
    | @dict a kvs ks vs h0 h1 h2 h3 => exact ⟨.ref a, rfl, .ref a, .ty "tuple", _, _, false, rfl, .ty "tuple", .base (.dK h1), kit_ty (by decide +kernel : kitB "dict" "tuple" = some false), false, rfl, iteT (fin H (Same.refl _))⟩
    | @tup a xs ds h1 h2 =>
      have hl := h2.length
      refine ⟨.ref a, rfl, .ref a, .ty "tuple", _, _, true, rfl, .ty "tuple", tyT h1, kit_ty (by decide +kernel : kitB "tuple" "tuple" = some true), true, rfl, iteF ?_⟩
      refine ⟨.ref a, rfl, a, xs, rfl, .inr h1, .int xs.length, _, true, rfl, .int _, _, rfl, ?_⟩
      have ce : countV (.int (xs.length : Nat)) = (decide (1 ≤ ds.length) && decide (ds.length ≤ 3)) := by
        show (decide ((1 : Int) ≤ (xs.length : Nat)) && decide (((xs.length : Nat) : Int) ≤ 3)) = _
        congr 1
        · rw [hl]
          by_cases z : 1 ≤ ds.length
          · rw [decide_eq_true z, decide_eq_true (by omega : (1 : Int) ≤ (ds.length : Nat))]
          · rw [decide_eq_false z, decide_eq_false (by omega : ¬ (1 : Int) ≤ (ds.length : Nat))]
        · rw [hl]
          by_cases z : ds.length ≤ 3
          · rw [decide_eq_true z, decide_eq_true (by omega : ((ds.length : Nat) : Int) ≤ 3)]
          · rw [decide_eq_false z, decide_eq_false (by omega : ¬ ((ds.length : Nat) : Int) ≤ 3)]
      rw [ce]
      have pe : pointD (fsts rows) (.tuple ds) = ((decide (1 ≤ ds.length) && decide (ds.length ≤ 3)) && ds.all (hasD (fsts rows))) := rfl
      cases cc : (decide (1 ≤ ds.length) && decide (ds.length ≤ 3)) with
      | false =>
        have := fin H (Same.refl _)
        rw [pe, cc, Bool.false_and] at this
        exact iteT this
      | true =>
        have cc2 : ds.length ≤ 3 := by
          have := (Bool.and_eq_true_iff.mp cc).2
          exact of_decide_eq_true this
        refine iteF ?_
        refine ⟨.ref a, rfl, a, rfl, ⟨_, h1⟩, fun D nD => ?_⟩
        refine lc_tup (xs := xs) (fun i H3 => H3 D = some (.lst ((ds.take i).map fun d => .bl (hasD (fsts rows) d))) ∧ Same H H3) ⟨upd_same, same_new nD⟩ (fun i H3 _ hP => sqT_same h1 hP.2) (fun i v H3 hv hP => ?_) (fun H3 hP => ?_)
        · obtain ⟨e1, s3⟩ := hP
          obtain ⟨di, hdi, shi⟩ := ShAll.get h2 hv
          have hH3 := hH.same s3
          obtain ⟨dx, r, q, u, rvs, kvs, g1, g2, g3, g4, g5, g6⟩ := hH3.ex
          refine ⟨rfl, .ref x, rfl, x, dx, _, rfl, g1, flds_no r q u (by decide +kernel) (by decide +kernel) (by decide +kernel), v, rfl, x, v, di, nd, rows, rfl, hH3, shi.same s3, fun H4 s4 => ?_⟩
          refine ⟨_, s4 _ _ e1, ?_, ?_, ?_⟩
          · rw [List.length_map, List.length_take]
            exact sz1 (by omega)
          · rw [upd_same, List.take_add_one, hdi, List.map_append]
            rfl
          · intro b o hb
            rw [upd_ne (ne_of_none hb nD)]
            exact s4 _ _ (s3 _ _ hb)
        · obtain ⟨e1, s3⟩ := hP
          have tk : ds.take xs.length = ds := List.take_of_length_le (by omega)
          rw [tk] at e1
          refine ⟨D, ds.map (hasD (fsts rows)), rfl, .inl (.inl (by rw [e1, List.map_map]; rfl)), ?_⟩
          rw [List.all_map]
          have := fin _ s3
          rw [pe, cc, Bool.true_and] at this
          exact this
end
end Lw
namespace Lw
open PySem PySem.Spec PyProof.Rows L2 Kv
theorem scOdd : FnScope ["_law_pot_here", "_law_names_here", "_law_some"] ["_law_pot_here", "_law_names_here"] (defScope sOdd) :=
  ⟨rfl, rfl, rfl, by decide +kernel, rfl, by decide +kernel, by decide +kernel⟩
/-- new places -/
def NewAt (H : Hp) : Addr → Prop := fun a => H a = none ∧ a ≠ sysModules
section
variable {P : Program} {w : World} {K : PySem.W.Frag} {mg : Str → Option Value} {base : Heap}
def spOdd : Sp := fun vs H Q _ => ∃ (p b : Addr) (n0 : Str) (nr : List Str), vs = [.ref p, .ref b] ∧ PotAt H p ∧ H b = some (.lst ((n0 :: nr).map V.str)) ∧ b ≠ p ∧ Sm 8 n0 ∧
  ∀ H' v d, PotAt H' p → But p H H' → ShO (NewAt H) H' v d → Fit 500 5 d → Q v H'
theorem ok_odd {f fD : Addr} {fd fdD : FuncData} {k : Nat} (F : Fun K "_law_odd" "_law_odd" sOdd f fd) (low : sysModules < base.objs.size)
    (FD : Fun K "_law_draw" "_law_draw" sDraw fD fdD) (bD : Binds K fdD ["_law_pot_here", "_law_many"] []) (gD : mg "_law_draw" = some (.ref fD))
    (GD : FnOk P w K mg base CX0 (k + 1) fD fdD ["_law_pot_here", "_law_many"] spDraw)
    (mT : mg "tuple" = none) (mL : mg "list" = none) (ml : mg "len" = none) :
    FnOk P w K mg base CX0 (k + 2) f fd ["_law_pot_here", "_law_names_here"] spOdd := by
  refine F.ok scOdd (fun vs H Q E h => ?_) (fun cdv A outer s H vs Q E hr h => ?_)
  · obtain ⟨p, b, n0, nr, rfl, _⟩ := h
    rfl
  · obtain ⟨p, b, n0, nr, rfl, hp, hb, nbp, hn0, fin⟩ := h
    refine ⟨_, pss_cons (ps_set (i := 2) scOdd.nd rfl (.inl rfl) (pe_lst (pa_cons pe_non (pa_cons pe_int (pa_cons pe_int (pa_cons pe_bl (pa_cons pe_bl (pa_cons pe_str (pa_cons pe_str (pa_cons pe_str (pa_cons pe_str
          (pa_cons (pe_tup pa_nil) (pa_cons (pe_lstN low pa_nil) (pa_cons pe_dnewK (pa_cons (pe_tup (pa_cons pe_str pa_nil)) (pa_cons (pe_lstN low (pa_cons (pe_tup pa_nil) pa_nil))
          (pa_cons (pe_un un_neg pe_int) (pa_cons (pe_op op_pow pe_int pe_int) pa_nil))))))))))))))))))
      (pss_cons (ps_set (i := 2) scOdd.nd rfl (.inl rfl) (pe_op op_cat (pv 2) (pe_lst
          (pa_cons (pe_callTy (call_listN low) (by rfl) mL (by decide +kernel) (pa_cons (pe_slice sl_list (pv 1) po_none (po_some pe_int)) pa_nil))
          (pa_cons (pe_callTy call_tuple_of (by rfl) mT (by decide +kernel) (pa_cons (pe_slice sl_list (pv 1) po_none (po_some pe_int)) pa_nil))
          (pa_cons (pe_disp (pps_cons (pe_ix ix_list (pv 1) pe_int (fun _ _ => rfl)) (pe_ix ix_list (pv 1) pe_int (fun _ _ => rfl)) pps_nil) (by rfl) (by rfl) (fun z => by cases z) (by decide)) pa_nil))))))
      (pss_one (ps_ret (pe_ix ix_list (pv 2) (pe_call GD hr (by rfl) gD FD.kp bD .nil pass0 (pa_cons (pv 0) (pa_cons (pe_callB call_len_seq (by rfl) ml PySem.boot_len (pa_cons (pv 2) pa_nil)) pa_nil))) (fun _ _ => rfl))))), ?_⟩
    refine ⟨(by decide : 0 ≤ sizeLine), fun c1 n1 => ?_⟩
    refine ⟨(by decide : 0 ≤ sizeLine), fun c2 n2 z2 => ?_⟩
    refine fun c3 n3 => ?_
    refine ⟨(by decide : 1 ≤ sizeLine), fun c4 n4 => ?_⟩
    refine ⟨(by decide : 0 ≤ sizeLine), fun c5 n5 => ⟨(by decide : 1 ≤ sizeLine), fun c6 n6 z6 => ?_⟩⟩
    refine ⟨_, rfl, 10, 30, rfl, rfl, ⟨by decide, by decide, by decide⟩, (by decide : 16 ≤ sizeLine), fun l1 nl1 => ?_⟩
    have t1 := same_new (o := .tup []) n1
    have t2 := same_new (o := .lst []) n2
    have t3 := same_new (o := .dK []) n3
    have t4 := same_new (o := .tup [.str "unknown"]) n4
    have t5 := same_new (o := .tup []) n5
    have t6 := same_new (o := .lst [.ref c5]) n6
    have t7 := same_new (o := .lst [.non, .int 0, .int 1, .bl true, .bl false, .str "", .str "A", .str "a b", .str "unknown", .ref c1, .ref c2, .ref c3, .ref c4, .ref c6, .int (-1), .int (10 ^ 30)]) nl1
    have q6 := t6.trans t7
    have q5 := t5.trans q6
    have q4 := t4.trans q5
    have q3 := t3.trans q4
    have q2 := t2.trans q3
    have q1 := t1.trans q2
    have bL := q1 _ _ hb
    refine ⟨.ref l1, rfl, ?_⟩
    have cutN : cutV ((n0 :: nr).map V.str) none (some 1) = [.str n0] := (cut_take (k := 1)).trans rfl
    refine ⟨.ref b, rfl, 1, rfl, b, _, rfl, .inl (.inl bL), fun s1 ns1 => ?_⟩
    rw [cutN]
    refine ⟨s1, _, rfl, .inl (.inl upd_same), fun c7 n7 z7 => ?_⟩
    have u1 := same_new (o := .lst [.str n0]) ns1
    have u2 := same_new (o := .lst [.str n0]) n7
    refine ⟨.ref b, rfl, 1, rfl, b, _, rfl, .inl (.inl (u2 _ _ (u1 _ _ bL))), fun s2 ns2 => ?_⟩
    rw [cutN]
    refine ⟨s2, _, rfl, .inl ⟨.inl (.inl upd_same), fun c8 n8 => ?_⟩⟩
    have u3 := same_new (o := .lst [.str n0]) ns2
    have u4 := same_new (o := .tup [.str n0]) n8
    refine fun c9 n9 => ?_
    have u5a := same_new (o := .dK []) n9
    have bM := u5a _ _ (u4 _ _ (u3 _ _ (u2 _ _ (u1 _ _ bL))))
    refine ⟨.ref b, rfl, b, _, 0, .str n0, rfl, rfl, .inl (.inl bM), atI_nat (j := 0) rfl, .ref b, rfl, b, _, 0, .str n0, rfl, rfl, .inl (.inl bM), atI_nat (j := 0) rfl, upd_same, [(Sum.inr n0, .str n0)], rfl, (by decide : 1 ≤ 15), ?_⟩
    refine ⟨(by decide : 3 ≤ sizeLine), fun l2 nl2 => ?_⟩
    have u5 := same_new2 (o := .dK []) (u := .dK [(Sum.inr n0, .str n0)]) n9
    have u6 := same_new (o := .lst [.ref c7, .ref c8, .ref c9]) nl2
    have v5 := u5.trans u6
    have v4 := u4.trans v5
    have v3 := u3.trans v4
    have v2 := u2.trans v3
    have v1 := u1.trans v2
    refine ⟨l1, l2, _, _, rfl, rfl, v1 _ _ upd_same, upd_same, (by decide : 16 + 3 ≤ sizeLine), fun l3 nl3 => ?_⟩
    have w1 := same_new (o := .lst ([.non, .int 0, .int 1, .bl true, .bl false, .str "", .str "A", .str "a b", .str "unknown", .ref c1, .ref c2, .ref c3, .ref c4, .ref c6, .int (-1), .int (10 ^ 30)] ++ [.ref c7, .ref c8, .ref c9])) nl3
    have all := q1.trans (v1.trans w1)
    have pne : ∀ {G : Hp} {c : Addr}, Same H G → G c = none → c ≠ p := by
      intro G c sg nc e
      obtain ⟨_, _, e3, _⟩ := hp
      rw [e, sg _ _ e3] at nc
      cases nc
    have k1 : c1 ≠ p := pne (Same.refl _) n1
    have k2 : c2 ≠ p := pne t1 n2
    have k3 : c3 ≠ p := pne (t1.trans t2) n3
    have k4 : c4 ≠ p := pne (t1.trans (t2.trans t3)) n4
    have k5 : c5 ≠ p := pne (t1.trans (t2.trans (t3.trans t4))) n5
    have k6 : c6 ≠ p := pne (t1.trans (t2.trans (t3.trans (t4.trans t5)))) n6
    have k7 : c7 ≠ p := pne (q1.trans u1) n7
    have k8 : c8 ≠ p := pne (q1.trans (u1.trans (u2.trans u3))) n8
    have k9 : c9 ≠ p := pne (q1.trans (u1.trans (u2.trans (u3.trans u4)))) n9
    have kl : l3 ≠ p := pne (q1.trans v1) nl3
    refine ⟨.ref l3, rfl, .ref p, rfl, .ref l3, rfl, l3, _, rfl, .inl (.inl (.inl upd_same)), p, 19, rfl, hp.same all, by decide, by decide, fun H4 j j1 j2 hp4 s4 => ?_⟩
    have bt : But p H H4 := (But.of_same all).trans s4
    have z1 := v1.trans w1
    have e1 := s4 _ _ k1 (z1 _ _ (q2 _ _ upd_same))
    have e2 := s4 _ _ k2 (z1 _ _ (q3 _ _ upd_same))
    have e3 := s4 _ _ k3 (z1 _ _ (q4 _ _ upd_same))
    have e4 := s4 _ _ k4 (z1 _ _ (q5 _ _ upd_same))
    have e5 := s4 _ _ k5 (z1 _ _ (q6 _ _ upd_same))
    have e6 := s4 _ _ k6 (z1 _ _ (t7 _ _ upd_same))
    have e7 := s4 _ _ k7 (w1 _ _ (v3 _ _ upd_same))
    have e8 := s4 _ _ k8 (w1 _ _ (v5 _ _ upd_same))
    have e9 := s4 _ _ k9 (w1 _ _ (u6 _ _ upd_same))
    have el := s4 _ _ kl upd_same
    have o2 : NewAt H c2 := ⟨t1.free n2, z2⟩
    have o6 : NewAt H c6 := ⟨(t1.trans (t2.trans (t3.trans (t4.trans t5)))).free n6, z6⟩
    have o7 : NewAt H c7 := ⟨(q1.trans u1).free n7, z7⟩
    have lit : ∀ x : Str, x ∈ (["", "A", "a b", "unknown"] : List Str) → Sm 10 x := by
      intro x hx
      have h1 : ∀ y ∈ (["", "A", "a b", "unknown"] : List Str), y.length ≤ 10 := by decide +kernel
      have h2 : ∀ y ∈ (["", "A", "a b", "unknown"] : List Str), ∀ c ∈ y.cps.toList, c < 128 := by decide +kernel
      exact ⟨h1 x hx, h2 x hx⟩
    have xf : Fit 8 3 (.str n0) := hn0.fit.mono (Nat.le_refl _) (Nat.zero_le 3)
    have uf : Fit 10 3 (.str "unknown") := (lit "unknown" (by simp)).fit.mono (Nat.le_refl _) (Nat.zero_le 3)
    have gd : ∀ v, atI ([V.non, .int 0, .int 1, .bl true, .bl false, .str "", .str "A", .str "a b", .str "unknown", .ref c1, .ref c2, .ref c3, .ref c4, .ref c6, .int (-1), .int (10 ^ 30)] ++ [.ref c7, .ref c8, .ref c9]) j = some v →
        ∃ d, ShO (NewAt H) H4 v d ∧ Fit 500 5 d := by
      intro v hv
      have : j = 0 ∨ j = 1 ∨ j = 2 ∨ j = 3 ∨ j = 4 ∨ j = 5 ∨ j = 6 ∨ j = 7 ∨ j = 8 ∨ j = 9 ∨ j = 10 ∨ j = 11 ∨ j = 12 ∨ j = 13 ∨ j = 14 ∨ j = 15 ∨ j = 16 ∨ j = 17 ∨ j = 18 := by omega
      rcases this with rfl | rfl | rfl | rfl | rfl | rfl | rfl | rfl | rfl | rfl | rfl | rfl | rfl | rfl | rfl | rfl | rfl | rfl | rfl <;> cases hv
      · exact ⟨_, .non, fit_non.mono (by decide) (by decide)⟩
      · exact ⟨_, .int 0, (fit_int (by decide)).mono (by decide) (by decide)⟩
      · exact ⟨_, .int 1, (fit_int (by decide)).mono (by decide) (by decide)⟩
      · exact ⟨_, .bl true, fit_bl.mono (by decide) (by decide)⟩
      · exact ⟨_, .bl false, fit_bl.mono (by decide) (by decide)⟩
      · exact ⟨_, .str _, (lit "" (by simp)).fit.mono (by decide) (by decide)⟩
      · exact ⟨_, .str _, (lit "A" (by simp)).fit.mono (by decide) (by decide)⟩
      · exact ⟨_, .str _, (lit "a b" (by simp)).fit.mono (by decide) (by decide)⟩
      · exact ⟨_, .str _, (lit "unknown" (by simp)).fit.mono (by decide) (by decide)⟩
      · exact ⟨_, .tup e1 .nil, (Fit.tup (m := 3) fitAll_nil).mono (by decide) (by decide)⟩
      · exact ⟨_, .lst e2 o2 .nil, (Fit.lst (m := 3) fitAll_nil).mono (by decide) (by decide)⟩
      · exact ⟨_, .dict (ks := []) (vs := []) e3 .nil .nil, (Fit.dict (m := 3) fitKv_nil).mono (by decide) (by decide)⟩
      · exact ⟨_, .tup e4 (.cons (.str _) .nil), (Fit.tup (FitAll.cons uf fitAll_nil)).mono (by decide) (by decide)⟩
      · exact ⟨_, .lst e6 o6 (.cons (.tup e5 .nil) .nil), (Fit.lst (FitAll.cons (Fit.tup (m := 3) fitAll_nil) fitAll_nil)).mono (by decide) (by decide)⟩
      · exact ⟨_, .int (-1), (fit_int (by decide)).mono (by decide) (by decide)⟩
      · exact ⟨_, .int _, (fit_int (by decide)).mono (by decide) (by decide)⟩
      · exact ⟨_, .lst e7 o7 (.cons (.str n0) .nil), (Fit.lst (FitAll.cons xf fitAll_nil)).mono (by decide) (by decide)⟩
      · exact ⟨_, .tup e8 (.cons (.str n0) .nil), (Fit.tup (FitAll.cons xf fitAll_nil)).mono (by decide) (by decide)⟩
      · exact ⟨_, .dict (ks := [.str n0]) (vs := [.str n0]) e9 (.cons (.str n0) .nil) (.cons (.str n0) .nil), (Fit.dict (xf.consKv xf fitKv_nil)).mono (by decide) (by decide)⟩
    obtain ⟨v, hv, _⟩ := atI_some (L := [V.non, .int 0, .int 1, .bl true, .bl false, .str "", .str "A", .str "a b", .str "unknown", .ref c1, .ref c2, .ref c3, .ref c4, .ref c6, .int (-1), .int (10 ^ 30)] ++ [V.ref c7, .ref c8, .ref c9]) j1 (by show j < ((19 : Nat) : Int); exact j2)
    obtain ⟨d, hd, hf⟩ := gd v hv
    exact ⟨l3, _, j, v, rfl, rfl, .inl (.inl el), hv, fin _ _ d hp4 bt hd hf⟩
end
end Lw
namespace Lw
open PySem PySem.Spec PyProof.Rows L2 Kv
theorem scValue : FnScope ["_law_pot_here", "_law_names_here", "_law_parts", "_law_turn", "_law_is_valid", "_law_way"] ["_law_pot_here", "_law_names_here"] (defScope sValue) :=
  ⟨rfl, rfl, rfl, by decide +kernel, rfl, by decide +kernel, by decide +kernel⟩
abbrev NDue : List Str := ["_law_value_here", "_law_names_here", "_law_part"]
theorem scDue : FnScope NDue ["_law_value_here", "_law_names_here"] (defScope sDue) :=
  ⟨rfl, rfl, rfl, by decide +kernel, rfl, by decide +kernel, by decide +kernel⟩
theorem FitAll.snoc {m : Nat} : ∀ {ds : List PyData} {n n' : Nat} {d : PyData}, FitAll n m ds → Fit n' m d → FitAll (n + (n' + 1)) m (ds ++ [d])
  | [], n, n', d, _, b => (FitAll.cons b fitAll_nil).mono (by omega) (Nat.le_refl _)
  | x :: r, n, n', d, a, b => by
    obtain ⟨a1, a2, a3, a4⟩ := a
    simp only [PyData.showableAll, Bool.and_eq_true] at a1
    simp only [PyData.leavesShortAll, Bool.and_eq_true] at a2
    simp only [PyData.weightAll] at a3
    simp only [PyData.depthAll] at a4
    have fx : Fit x.weight m x := ⟨a1.1, a2.1, Nat.le_refl _, by omega⟩
    have fr : FitAll (PyData.weightAll r) m r := ⟨a1.2, a2.2, Nat.le_refl _, by omega⟩
    exact (FitAll.cons fx (FitAll.snoc fr b)).mono (by omega) (Nat.le_refl _)
theorem ShO.mono {ok ok' : Addr → Prop} {H : Hp} (h : ∀ a, ok a → ok' a) : ∀ {v : V} {d : PyData}, ShO ok H v d → ShO ok' H v d := by
  intro v d s
  exact ShO.rec (motive_1 := fun v d _ => ShO ok' H v d) (motive_2 := fun vs ds _ => ShOs ok' H vs ds) .non .bl .int .str
    (fun h1 h2 _ ih => .lst h1 (h _ h2) ih) (fun h1 _ ih => .tup h1 ih) (fun h1 _ _ i1 i2 => .dict h1 i1 i2) .nil (fun _ _ i1 i2 => .cons i1 i2) s
section
variable {P : Program} {w : World} {K : PySem.W.Frag} {mg : Str → Option Value} {base : Heap}
def spValue (K : PySem.W.Frag) : Sp := fun vs H Q _ => ∃ (p b : Addr) (n0 : Str) (nr : List Str), vs = [.ref p, .ref b] ∧ PotAt H p ∧ H b = some (.lst ((n0 :: nr).map V.str)) ∧ b ≠ p ∧ (∀ x ∈ n0 :: nr, Sm 8 x) ∧ (n0 :: nr).length ≤ 100 ∧
  ∀ H' v, PotAt H' p → But p H H' → GoodN 3000 10 K H' v → Q v H'
theorem ok_value {f fD fO : Addr} {fd fdD fdO : FuncData} {k : Nat} (F : Fun K "_law_value" "_law_value" sValue f fd) (low : sysModules < base.objs.size)
    (FD : Fun K "_law_draw" "_law_draw" sDraw fD fdD) (bD : Binds K fdD ["_law_pot_here", "_law_many"] []) (gD : mg "_law_draw" = some (.ref fD))
    (FO : Fun K "_law_odd" "_law_odd" sOdd fO fdO) (bO : Binds K fdO ["_law_pot_here", "_law_names_here"] []) (gO : mg "_law_odd" = some (.ref fO))
    (GD : FnOk P w K mg base CX0 (k + 1) fD fdD ["_law_pot_here", "_law_many"] spDraw) (GO : FnOk P w K mg base CX0 (k + 2) fO fdO ["_law_pot_here", "_law_names_here"] spOdd)
    (mr : mg "range" = none) (mT : mg "tuple" = none) (ml : mg "len" = none) :
    FnOk P w K mg base CX0 (k + 3) f fd ["_law_pot_here", "_law_names_here"] (spValue K) := by
  refine F.ok scValue (fun vs H Q E h => ?_) (fun cdv A outer s H vs Q E hr h => ?_)
  · obtain ⟨p, b, n0, nr, rfl, _⟩ := h
    rfl
  · obtain ⟨p, b, n0, nr, rfl, hp, hb, nbp, hns, hnl, fin⟩ := h
    have hrD := hr.mono (by omega : k + 1 ≤ k + 2)
    refine ⟨_, pss_cons (ps_set (i := 2) scValue.nd rfl (.inl rfl) (pe_lstN low pa_nil))
      (pss_cons (ps_for PassesOwn.never rfl (pi_range1 rfl mr (pa_cons (pe_call GD hrD (by rfl) gD FD.kp bD .nil pass0 (pa_cons (pv 0) (pa_cons pe_int pa_nil))) pa_nil)) (pg_name (i := 3) scValue.nd rfl (.inl rfl))
        (pss_cons (ps_set (i := 4) scValue.nd rfl (.inl rfl) (pe_cmpR op_gt (pe_call GD hrD (by rfl) gD FD.kp bD .nil pass0 (pa_cons (pv 0) (pa_cons pe_int pa_nil))) pe_int (nomark _)))
        (pss_one (ps_expr (pe_bm PySem.F.plainAttrs_list PySem.F.slot_list_append PySem.F.type_list_append mt_append (pv 2) (pa_cons
          (pe_ifExp (pt_val (pv 4)) (pe_ix ix_list (pv 1) (pe_call GD hrD (by rfl) gD FD.kp bD .nil pass0 (pa_cons (pv 0) (pa_cons (pe_callB call_len_seq (by rfl) ml PySem.boot_len (pa_cons (pv 1) pa_nil)) pa_nil))) (fun _ _ => rfl))
            (pe_call GO hr (by rfl) gO FO.kp bO .nil pass0 (pa_cons (pv 0) (pa_cons (pv 1) pa_nil)))) pa_nil))))))
      (pss_cons (ps_set (i := 5) scValue.nd rfl (.inl rfl) (pe_call GD hrD (by rfl) gD FD.kp bD .nil pass0 (pa_cons (pv 0) (pa_cons pe_int pa_nil))))
      (pss_cons (ps_if (pt_cmpR op_eq (pv 5) pe_int (nomark _)) (pss_one (ps_ret (pv 2))) pss_nil)
      (pss_one (ps_ret (pe_ifExp (pt_cmpR op_eq (pv 5) pe_int (nomark _)) (pe_call GO hr (by rfl) gO FO.kp bO .nil pass0 (pa_cons (pv 0) (pa_cons (pv 1) pa_nil)))
        (pe_callTy call_tuple_of (by rfl) mT (by decide +kernel) (pa_cons (pv 2) pa_nil)))))))), ?_⟩
    refine ⟨(by decide : 0 ≤ sizeLine), fun R nR zR => ?_⟩
    have nRp : p ≠ R := by
      obtain ⟨_, _, e, _⟩ := hp
      exact ne_of_none e nR
    have nbR : b ≠ R := ne_of_none hb nR
    have t0 := same_new (o := .lst []) nR
    refine ⟨.ref p, rfl, p, 5, rfl, hp.same t0, by decide, by decide, fun H1 m a1 a2 hp1 s1 => ?_⟩
    have b1 : But p H H1 := (But.of_same t0).trans s1
    refine ⟨m, rfl, by omega, by omega, ?_⟩
    refine for_range (n := m.toNat) (fun i σ H3 => ∃ (y3 y4 : Option V) (us : List V) (ds : List PyData), σ = [some (.ref p), some (.ref b), some (.ref R), y3, y4, none] ∧ H3 R = some (.lst us) ∧
        ShOs (fun a => a ≠ p ∧ a ≠ R ∧ a ≠ sysModules) H3 us ds ∧ FitAll (501 * i) 5 ds ∧ us.length = i ∧ H3 b = some (.lst ((n0 :: nr).map V.str)) ∧ PotAt H3 p ∧ But p H H3)
      ⟨none, none, [], [], rfl, s1 _ _ nRp.symm upd_same, .nil, fitAll_nil.mono (Nat.zero_le _) (Nat.le_refl _), rfl, b1 _ _ nbp hb, hp1, b1⟩ (fun i σ H3 hi hP => ?_) (fun σ H3 hP => ?_)
    · obtain ⟨y3, y4, us, ds, rfl, eR, esh, efit, elen, eb, hp3, b3⟩ := hP
      refine ⟨.ref p, rfl, p, 5, rfl, hp3, by decide, by decide, fun H4 d4 d40 d41 hp4 s4 => ?_⟩
      have okp : ∀ a, (fun a => a ≠ p ∧ a ≠ R ∧ a ≠ sysModules) a → a ≠ p := fun a z => z.1
      obtain ⟨r3, g3, ep3, _⟩ := id hp3
      have sh4 := esh.but okp ep3 s4
      have R4 := s4 _ _ nRp.symm eR
      have b4 := s4 _ _ nbp eb
      refine ⟨_, _, rfl, rfl, .ref R, rfl, .inl ⟨rfl, _, .inl (.inl R4)⟩, .bl (decide (d4 > 0)), rfl, _, rfl, ?_⟩
      have app : ∀ H5 v d, PotAt H5 p → But p H4 H5 → ShO (fun a => a ≠ p ∧ a ≠ R ∧ a ≠ sysModules) H5 v d → Fit 500 5 d →
          ∃ l xs y, V.ref R = .ref l ∧ [v] = [y] ∧ H5 l = some (.lst xs) ∧ xs.length < sizeLine ∧ ∃ (y3' y4' : Option V) (us' : List V) (ds' : List PyData),
            ([some (.ref p), some (.ref b), some (.ref R), some (.int (0 + (i : Int))), some (.bl (decide (d4 > 0))), none] : List (Option V)) = [some (.ref p), some (.ref b), some (.ref R), y3', y4', none] ∧
            (upd H5 l (.lst (xs ++ [y]))) R = some (.lst us') ∧ ShOs (fun a => a ≠ p ∧ a ≠ R ∧ a ≠ sysModules) (upd H5 l (.lst (xs ++ [y]))) us' ds' ∧ FitAll (501 * (i + 1)) 5 ds' ∧ us'.length = i + 1 ∧
            (upd H5 l (.lst (xs ++ [y]))) b = some (.lst ((n0 :: nr).map V.str)) ∧ PotAt (upd H5 l (.lst (xs ++ [y]))) p ∧ But p H (upd H5 l (.lst (xs ++ [y]))) := by
        intro H5 v d hp5 s5 shv fv
        obtain ⟨r4, g4, ep4, _⟩ := id hp4
        have R5 := s5 _ _ nRp.symm R4
        have up : ∀ {us : List V} {ds : List PyData} (o : HO), ShOs (fun a => a ≠ p ∧ a ≠ R ∧ a ≠ sysModules) H5 us ds → ShOs (fun a => a ≠ p ∧ a ≠ R ∧ a ≠ sysModules) (upd H5 R o) us ds := fun o z =>
          z.keep (fun a xs oka e => by rw [upd_ne oka.2.1]; exact e) (fun a xs e => by rw [upd_ne (ne_of e R5 (by intro z; cases z))]; exact e) (fun a xs e => by rw [upd_ne (ne_of e R5 (by intro z; cases z))]; exact e)
        refine ⟨R, us, v, rfl, rfl, R5, sz1 (by omega), _, _, us ++ [v], ds ++ [d], rfl, upd_same, ?_, ?_, ?_, ?_, ?_, ?_⟩
        · exact up _ (ShOs.snoc (sh4.but okp ep4 s5) shv)
        · exact (FitAll.snoc efit fv).mono (by omega) (Nat.le_refl _)
        · rw [List.length_append, elen]
          rfl
        · rw [upd_ne nbR]
          exact s5 _ _ nbp b4
        · obtain ⟨r, g, e, h⟩ := hp5
          exact ⟨r, g, by rw [upd_ne nRp]; exact e, h⟩
        · intro c o nc hc
          rw [upd_ne (ne_of_none hc nR)]
          exact s5 _ _ nc (s4 _ _ nc (b3 _ _ nc hc))
      refine ite2 (fun e => ?_) (fun e => ?_)
      · refine ⟨.ref b, rfl, .ref p, rfl, .ref b, rfl, b, _, rfl, .inl (.inl (.inl b4)), p, _, rfl, hp4, ?_, ?_, fun H5 d5 d50 d51 hp5 s5 => ?_⟩
        · rw [List.length_map, List.length_cons]
          omega
        · rw [List.length_map]
          omega
        · obtain ⟨c, hc, hm⟩ := atI_some (L := (n0 :: nr).map V.str) d50 d51
          obtain ⟨y, hy, rfl⟩ := List.mem_map.mp hm
          refine ⟨b, _, d5, .str y, rfl, rfl, .inl (.inl (s5 _ _ nbp b4)), hc, ?_⟩
          exact app H5 (.str y) (.str y) hp5 s5 (.str y) ((hns y hy).fit.mono (by decide) (by decide))
      · refine ⟨.ref p, rfl, .ref b, rfl, p, b, n0, nr, rfl, hp4, b4, nbp, hns n0 (List.mem_cons_self ..), fun H5 v d hp5 s5 shv fv => ?_⟩
        refine app H5 v d hp5 s5 (ShO.mono (fun a za => ⟨?_, ?_, za.2⟩) shv) fv
        · rintro rfl
          obtain ⟨_, _, e, _⟩ := hp4
          rw [za.1] at e
          cases e
        · rintro rfl
          rw [za.1] at R4
          cases R4
    · obtain ⟨y3, y4, us, ds, rfl, eR, esh, efit, elen, eb, hp3, b3⟩ := hP
      have efit2 : FitAll 2004 5 ds := efit.mono (by omega) (Nat.le_refl _)
      refine ⟨.ref p, rfl, p, 8, rfl, hp3, by decide, by decide, fun H4 d4 d40 d41 hp4 s4 => ?_⟩
      have okp : ∀ a, (fun a => a ≠ p ∧ a ≠ R ∧ a ≠ sysModules) a → a ≠ p := fun a z => z.1
      obtain ⟨r3, g3, ep3, _⟩ := id hp3
      have sh4 := esh.but okp ep3 s4
      have R4 := s4 _ _ nRp.symm eR
      have b4 := s4 _ _ nbp eb
      have bt := b3.trans s4
      have sh5 : ShAll K false H4 us ds := sh4.sh (fun a z => z.2.2)
      refine ⟨.int d4, rfl, rfl, _, rfl, ite2 (fun e => ?_) (fun e => ?_)⟩
      · exact ⟨.ref R, rfl, fin _ _ hp4 bt ⟨_, .lst (.inl (.inl R4)) (fun _ => zR) sh5, (Fit.lst efit2).mono (by decide) (by decide)⟩⟩
      · refine ⟨.int d4, rfl, rfl, _, rfl, ite2 (fun e2 => ?_) (fun e2 => ?_)⟩
        · refine ⟨.ref p, rfl, .ref b, rfl, p, b, n0, nr, rfl, hp4, b4, nbp, hns n0 (List.mem_cons_self ..), fun H5 v d hp5 s5 shv fv => ?_⟩
          exact fin _ _ hp5 (bt.trans s5) ⟨d, shv.sh (fun a z => z.2), fv.mono (by decide) (by decide)⟩
        · refine ⟨.ref R, rfl, R, us, rfl, .inl ⟨.inl (.inl R4), fun l nl => ?_⟩⟩
          have tl := same_new (o := .tup us) nl
          exact fin _ _ (hp4.same tl) (bt.new nl) ⟨_, .tup (.inl (.inl upd_same)) (sh5.same tl), (Fit.tup efit2).mono (by decide) (by decide)⟩
def spDue (K : PySem.W.Frag) : Sp := fun vs H Q _ => ∃ (v : V) (b : Addr) (d : PyData) (nd : Bool) (ns : List Str), vs = [v, .ref b] ∧ Sh K nd H v d ∧ SqL K H b (ns.map V.str) ∧
  ∀ H', Same H H' → Q (.bl (pointD ns d)) H'
theorem ok_due {f : Addr} {fd : FuncData} {k : Nat} (F : Fun K "_law_is_due" "_law_is_due" sDue f fd)
    (mi : mg "isinstance" = none) (mT : mg "tuple" = none) (ms : mg "str" = none) (ml : mg "len" = none) (ma : mg "all" = none) :
    FnOk P w K mg base CX0 (k + 1) f fd ["_law_value_here", "_law_names_here"] (spDue K) := by
  refine F.ok scDue (fun vs H Q E h => ?_) (fun cdv A outer s H vs Q E hr h => ?_)
  · obtain ⟨v, b, d, nd, ns, rfl, _⟩ := h
    rfl
  · obtain ⟨v, b, d, nd, ns, rfl, sh, hb, fin⟩ := h
    refine ⟨_, pss_cons (ps_if (PW.pt (pw_or (pt_not (pt_val (pe_callB call_isi (by rfl) mi (by decide +kernel) (pa_cons (pv 0)
          (pa_cons (pe_bltn (v := .ty "tuple") (by rfl) mT (by decide +kernel : bootBuiltins "tuple" = some (.type "tuple")) rfl) pa_nil)))))
          (pw_or1 (pt_not (pt_chain op_le op_le pe_int (pe_callB call_len_seq (by rfl) ml PySem.boot_len (pa_cons (pv 0) pa_nil)) pe_int))))) (pss_one (ps_ret pe_bl)) pss_nil)
      (pss_one (ps_ret (pe_callB (cr_all rfl) (by rfl) ma (by decide +kernel) (pa_cons
          (pe_lc (own := [("_law_part", 2)]) (g := gName 2) (tt := tYes) (te := tAndV (tCB (rIsi K) (tCons (tVar 2) (tCons (tC (.ty "str")) tNil))) (tOp (rIn K false) (tVar 2) (tVar 1))) rfl scDue.nd (pi_tup (pv 0))
            (blkOk_by (own := [("_law_part", 2)]) (N := NDue) (sc := defScope sDue) (by decide +kernel))
            (fun _ _ _ _ _ => pg_name (i := 2) scDue.nd rfl (Or.inl rfl)) (fun _ _ _ _ _ => pts_nil)
            (fun _ _ _ _ _ => pe_and (pe_callB call_isi (by rfl) mi (by decide +kernel) (pa_cons (pv 2)
              (pa_cons (pe_bltn (v := .ty "str") (by rfl) ms (by decide +kernel : bootBuiltins "str" = some (.type "str")) rfl) pa_nil)))
              (pe_one (pe_cmpR op_in_seq (pv 2) (pv 1) (by rfl))))) pa_nil)))), ?_⟩
    cases sh with
    | non => exact ⟨.non, rfl, .non, .ty "tuple", _, _, false, rfl, .ty "tuple", .base .non, kit_ty (by decide +kernel : kitB "NoneType" "tuple" = some false), false, rfl, iteT (fin H (Same.refl _))⟩
    | bl x => exact ⟨.bl x, rfl, .bl x, .ty "tuple", _, _, false, rfl, .ty "tuple", .base (.bl x), kit_ty (by decide +kernel : kitB "bool" "tuple" = some false), false, rfl, iteT (fin H (Same.refl _))⟩
    | int i => exact ⟨.int i, rfl, .int i, .ty "tuple", _, _, false, rfl, .ty "tuple", .base (.int i), kit_ty (by decide +kernel : kitB "int" "tuple" = some false), false, rfl, iteT (fin H (Same.refl _))⟩
    | str y => exact ⟨.str y, rfl, .str y, .ty "tuple", _, _, false, rfl, .ty "tuple", .base (.str y), kit_ty (by decide +kernel : kitB "str" "tuple" = some false), false, rfl, iteT (fin H (Same.refl _))⟩
    | @lst a xs ds h1 h2 h3 => exact ⟨.ref a, rfl, .ref a, .ty "tuple", _, _, false, rfl, .ty "tuple", tyL h1, kit_ty (by decide +kernel : kitB "list" "tuple" = some false), false, rfl, iteT (fin H (Same.refl _))⟩
    | @dict a kvs ks vs h0 h1 h2 h3 => exact ⟨.ref a, rfl, .ref a, .ty "tuple", _, _, false, rfl, .ty "tuple", .base (.dK h1), kit_ty (by decide +kernel : kitB "dict" "tuple" = some false), false, rfl, iteT (fin H (Same.refl _))⟩
    | @tup a xs ds h1 h2 =>
      have hl := h2.length
      have pe : pointD ns (.tuple ds) = ((decide (1 ≤ ds.length) && decide (ds.length ≤ 3)) && ds.all (hasD ns)) := rfl
      have no : ¬ (1 ≤ ds.length ∧ ds.length ≤ 3) → Q (.bl false) H := by
        intro z
        have := fin H (Same.refl _)
        have e : pointD ns (.tuple ds) = false := by
          rw [pe]
          by_cases y : 1 ≤ ds.length
          · rw [decide_eq_false (by omega : ¬ ds.length ≤ 3), Bool.and_false, Bool.false_and]
          · rw [decide_eq_false y, Bool.false_and, Bool.false_and]
        rw [e] at this
        exact this
      refine ⟨.ref a, rfl, .ref a, .ty "tuple", _, _, true, rfl, .ty "tuple", tyT h1, kit_ty (by decide +kernel : kitB "tuple" "tuple" = some true), true, rfl, iteF ?_⟩
      refine ⟨.ref a, rfl, a, xs, rfl, .inr h1, _, _, rfl, rfl, _, rfl, ite2 (fun e => ?_) (fun e => ?_)⟩
      · have e1 : (1 : Int) ≤ (xs.length : Nat) := of_decide_eq_true e
        refine ⟨_, _, rfl, rfl, _, rfl, ?_⟩
        by_cases e2 : ((xs.length : Nat) : Int) ≤ 3
        · rw [decide_eq_true e2]
          refine iteF ?_
          have cc : (decide (1 ≤ ds.length) && decide (ds.length ≤ 3)) = true := by
            rw [decide_eq_true (by omega : 1 ≤ ds.length), decide_eq_true (by omega : ds.length ≤ 3)]
            rfl
          refine ⟨.ref a, rfl, a, rfl, ⟨_, h1⟩, fun D nD => ?_⟩
          refine lc_tup (xs := xs) (fun i H3 => H3 = upd H D (.lst ((ds.take i).map fun d => .bl (hasD ns d)))) rfl (fun i H3 _ hP => ?_) (fun i v H3 hv hP => ?_) (fun H3 hP => ?_)
          · subst hP
            exact sqT_same h1 (same_new nD)
          · subst hP
            obtain ⟨di, hdi, shi⟩ := ShAll.get h2 hv
            have sD := same_new (o := .lst ((ds.take i).map fun d => V.bl (hasD ns d))) nD
            have nx : ∀ bb : Bool, bb = hasD ns di → ∃ acc, (upd H D (.lst ((ds.take i).map fun d => V.bl (hasD ns d)))) D = some (.lst acc) ∧ acc.length < sizeLine ∧
                upd (upd H D (.lst ((ds.take i).map fun d => V.bl (hasD ns d)))) D (.lst (acc ++ [.bl bb])) = upd H D (.lst ((ds.take (i + 1)).map fun d => .bl (hasD ns d))) := by
              intro bb hbb
              refine ⟨_, upd_same, ?_, ?_⟩
              · rw [List.length_map, List.length_take]
                exact sz1 (by omega)
              · rw [upd_upd, List.take_add_one, hdi, List.map_append, hbb]
                rfl
            have shi2 := shi.same sD
            obtain ⟨T0, ty, hT⟩ := shi2.ty
            rcases hT with ⟨y, rfl, rfl⟩ | ⟨hne, hT⟩
            · refine ⟨rfl, .str y, rfl, .str y, .ty "str", _, _, true, rfl, .ty "str", ty, kit_ty (by decide +kernel), true, rfl, iteT ?_⟩
              refine ⟨.str y, rfl, .ref b, rfl, b, _, rfl, .inl (sD.seq hb), rfl, flats ns, ?_⟩
              show ∃ acc, _ ∧ _ ∧ upd _ D (.lst (acc ++ [.bl (inV (.str y) (ns.map V.str))])) = _
              rw [inV_strs]
              cases shi
              exact nx _ rfl
            · have hk : kitB T0 "str" = some false := by
                rcases hT with rfl | rfl | rfl | rfl | rfl | rfl <;> decide +kernel
              have hf : hasD ns di = false := by
                cases shi with
                | str y => exact absurd rfl (hne y)
                | _ => rfl
              exact ⟨rfl, v, rfl, v, .ty "str", _, _, false, rfl, .ty "str", ty, kit_ty hk, false, rfl, iteF (nx false hf.symm)⟩
          · subst hP
            have tk : ds.take xs.length = ds := List.take_of_length_le (by omega)
            rw [tk]
            refine ⟨D, ds.map (hasD ns), rfl, .inl (.inl (by rw [upd_same, List.map_map]; rfl)), ?_⟩
            rw [List.all_map]
            have := fin _ (same_new (o := .lst (ds.map fun d => V.bl (hasD ns d))) nD)
            rw [pe, cc, Bool.true_and] at this
            exact this
        · rw [decide_eq_false e2]
          exact iteT (no (by omega))
      · have e1 : ¬ (1 : Int) ≤ (xs.length : Nat) := fun z => e (decide_eq_true z)
        exact ⟨false, rfl, iteT (no (by omega))⟩
end
end Lw
namespace Lw
open PySem PySem.Spec PyProof.Rows L2 Kv
abbrev NRight : List Str := ["_law_world", "_law_names_here", "_law_value_here", "_law_shown", "_law_due", "_law_told", "_law_one"]
theorem scRight : FnScope NRight ["_law_world", "_law_names_here", "_law_value_here"] (defScope sRight) :=
  ⟨rfl, rfl, rfl, by decide +kernel, rfl, by decide +kernel, by decide +kernel⟩
theorem shaped2 (b : Bool) : SeqAt.shaped (.list [.str (PyData.shown (.bool b)), .str (PyData.shown (.bool b))]) = true := by
  cases b <;> decide +kernel
theorem eqv2 (b : Bool) : PyData.eqv (.list [.str (PyData.shown (.bool b)), .str (PyData.shown (.bool b))]) (.list [.str (PyData.shown (.bool b)), .str (PyData.shown (.bool b))]) = true := by
  cases b <;> decide +kernel
section
variable {P : Program} {w : World} {K : PySem.W.Frag} {mg : Str → Option Value} {base : Heap}
def spRight (K : PySem.W.Frag) (C : Addr) : Sp := fun vs H Q _ => ∃ (x b : Addr) (v : V) (rows : List Row2), vs = [.ref x, .ref b, v] ∧ HierAt C H x rows ∧ SqL K H b ((fsts rows).map V.str) ∧ GoodN 3000 10 K H v ∧
  ∀ H', Same H H' → Q (.bl true) H'
theorem ok_right {f fD fP C : Addr} {fd fdD fdP : FuncData} {k : Nat} (F : Fun K "_law_right" "_law_right" sRight f fd)
    (FD : Fun K "_law_is_due" "_law_is_due" sDue fD fdD) (bD : Binds K fdD ["_law_value_here", "_law_names_here"] []) (gD : mg "_law_is_due" = some (.ref fD))
    (FP : Fun K "is_point" "is_point" sIsPoint fP fdP) (bP : Binds K fdP ["hierarchy", "value"] []) (gP : mg "is_point" = some (.ref fP))
    (GD : FnOk P w K mg base CX0 (k + 1) fD fdD ["_law_value_here", "_law_names_here"] (spDue K)) (GP : FnOk P w K mg base CX0 (k + 2) fP fdP ["hierarchy", "value"] (spPoint K C))
    (mp : mg "repr" = none) : FnG P w K mg base CX0 (k + 3) f fd ["_law_world", "_law_names_here", "_law_value_here"] (spRight K C) := by
  refine okG F scRight (fun vs H Q E h => ?_) (fun cdv A outer s H vs Q E hg hr h => ?_)
  · obtain ⟨x, b, v, rows, rfl, _⟩ := h
    rfl
  · obtain ⟨x, b, v, rows, rfl, hH, hb, ⟨d, sh, hf⟩, fin⟩ := h
    have hrD := hr.mono (by omega : k + 1 ≤ k + 2)
    refine ⟨_, pss_cons (ps_par (by rfl) scRight.nd rfl rfl (i := 3) (j := 4) (by decide) rfl rfl
        (pa_cons (pe_callB (call_reprD hg hr.units) (by rfl) mp (by decide +kernel) (pa_cons (pv 2) pa_nil))
        (pa_cons (pe_callB (call_reprD hg hr.units) (by rfl) mp (by decide +kernel) (pa_cons (pe_call GD hrD (by rfl) gD FD.kp bD .nil pass0 (pa_cons (pv 2) (pa_cons (pv 1) pa_nil))) pa_nil)) pa_nil)) (by rfl))
      (pss_cons (ps_set (i := 5) scRight.nd rfl (.inl rfl) (pe_lst (pa_cons (pe_call GP hr (by rfl) gP FP.kp bP .nil pass0 (pa_cons (pv 0) (pa_cons (pv 2) pa_nil)))
        (pa_cons (pe_call GP hr (by rfl) gP FP.kp bP .nil pass0 (pa_cons (pv 0) (pa_cons (pv 2) pa_nil))) pa_nil))))
      (pss_one (ps_ret (pe_and (pe_cmpR (op_eqD hr.units)
          (pe_lc (own := [("_law_one", 6)]) (g := gName 6) (tt := tYes) (te := tCB (rRepr K) (tCons (tVar 6) tNil)) rfl scRight.nd (pi_list (pv 5))
            (blkOk_by (own := [("_law_one", 6)]) (N := NRight) (sc := defScope sRight) (by decide +kernel))
            (fun _ _ _ _ _ => pg_name (i := 6) scRight.nd rfl (Or.inl rfl)) (fun _ _ _ _ _ => pts_nil)
            (fun _ _ _ _ _ => pe_callB (call_reprD hg hr.units) (by rfl) mp (by decide +kernel) (pa_cons (pv 6) pa_nil)))
          (pe_op op_rep (pe_lst (pa_cons (pv 4) pa_nil)) pe_int) (nomark _))
        (pe_one (pe_cmpR op_eq (pe_callB (call_reprD hg hr.units) (by rfl) mp (by decide +kernel) (pa_cons (pv 2) pa_nil)) (pv 3) (nomark _))))))), ?_⟩
    obtain ⟨f1, f2, f3⟩ := hf.ok (by decide) (by decide)
    obtain ⟨bb, hbb⟩ : ∃ bb, bb = pointD (fsts rows) d := ⟨_, rfl⟩
    obtain ⟨c1, c2, c3⟩ := (fit_bl (b := bb)).ok (by decide) (by decide)
    refine ⟨v, rfl, false, v, d, rfl, sh, f1, f2, f3, v, rfl, .ref b, rfl, v, b, d, false, fsts rows, rfl, sh, hb, fun H1 s1 => ?_⟩
    rw [← hbb]
    refine ⟨true, .bl bb, .bool bb, rfl, .bl bb, c1, c2, c3, _, _, rfl, ?_⟩
    refine ⟨.ref x, rfl, v, rfl, x, v, d, false, rows, rfl, hH.same s1, sh.same s1, fun H2 s2 => ?_⟩
    have s12 := s1.trans s2
    refine ⟨.ref x, rfl, v, rfl, x, v, d, false, rows, rfl, hH.same s12, sh.same s12, fun H3 s3 => ?_⟩
    rw [← hbb]
    have s13 := s12.trans s3
    refine ⟨(by decide : 2 ≤ sizeLine), fun l nl => ?_⟩
    have sl := same_new (o := .lst [.bl bb, .bl bb]) nl
    refine ⟨.ref l, rfl, l, rfl, ⟨_, .inl (.inl upd_same)⟩, fun D nD => ?_⟩
    have lD : l ≠ D := fun z => by
      rw [← z, upd_same] at nD
      cases nD
    refine lc_list (xs := [V.bl bb, V.bl bb]) (fun j H5 => H5 = upd (upd H3 l (.lst [.bl bb, .bl bb])) D (.lst (List.replicate j (.str (PyData.shown (.bool bb)))))) rfl
      (fun j H5 _ hP => ?_) (fun j y H5 hy hP => ?_) (fun H5 hP => ?_)
    · subst hP
      exact .inl (.inl (by rw [upd_ne lD, upd_same]))
    · subst hP
      have hj : j < 2 := (List.getElem?_eq_some_iff.mp hy).1
      have ey : y = .bl bb := by
        have : j = 0 ∨ j = 1 := by omega
        rcases this with rfl | rfl
        · exact (Option.some.inj hy).symm
        · exact (Option.some.inj hy).symm
      subst ey
      refine ⟨rfl, .bl bb, rfl, true, .bl bb, .bool bb, rfl, .bl bb, c1, c2, c3, _, upd_same, ?_, ?_⟩
      · rw [List.length_replicate]
        exact sz1 (by omega)
      · rw [upd_upd, List.replicate_succ']
    · subst hP
      have sD := same_new (o := .lst [.str (PyData.shown (.bool bb)), .str (PyData.shown (.bool bb))]) nD
      refine ⟨.str (PyData.shown (.bool bb)), rfl, (by decide : 1 ≤ sizeLine), fun l2 nl2 => ?_⟩
      have s2b := same_new (o := .lst [.str (PyData.shown (.bool bb))]) nl2
      refine ⟨l2, 2, _, rfl, rfl, upd_same, by decide, by decide, (by decide : 1 * 2 ≤ sizeLine), fun l3 nl3 => ?_⟩
      have s3b := same_new (o := .lst [.str (PyData.shown (.bool bb)), .str (PyData.shown (.bool bb))]) nl3
      refine ⟨.list [.str (PyData.shown (.bool bb)), .str (PyData.shown (.bool bb))], .list [.str (PyData.shown (.bool bb)), .str (PyData.shown (.bool bb))],
        .lst (.inl (.inl (s3b _ _ (s2b _ _ upd_same)))) (.cons (.str _) (.cons (.str _) .nil)), .lst (.inl (.inl upd_same)) (.cons (.str _) (.cons (.str _) .nil)), shaped2 bb, shaped2 bb, _, rfl, ?_⟩
      rw [if_pos (eqv2 bb)]
      have sm := s13.trans (sl.trans (sD.trans (s2b.trans s3b)))
      refine ⟨v, rfl, false, v, d, rfl, sh.same sm, f1, f2, f3, .str d.shown, rfl, rfl, ?_⟩
      rw [decide_eq_true rfl]
      exact fin _ sm
end
end Lw
namespace Lw
open PySem PySem.Spec PyProof.Rows L2 Kv
abbrev NLaw : List Str := ["_law_script", "_law_empty", "_law_some", "_law_k", "_law_pot_here", "_law_rows", "_law_world", "_law_names_here", "_law_value_here", "_law_row", "_law_turn"]
theorem scLaw : FnScope NLaw ["_law_script"] (defScope sLaw) :=
  ⟨rfl, rfl, rfl, by decide +kernel, rfl, by decide +kernel, by decide +kernel⟩
theorem fsts_len (rows : List Row2) : (fsts rows).length = rows.length := List.length_map _
theorem valid_names {rows : List Row2} (v : Valid rows) : ∀ x ∈ fsts rows, nameV (.str x) = true := by
  intro x hx
  obtain ⟨r, hr, rfl⟩ := List.mem_map.mp hx
  obtain ⟨i, hi, e⟩ := List.getElem_of_mem hr
  exact (v i r.1 r.2 (by rw [List.getElem?_eq_getElem hi, e])).1
section
variable {P : Program} {w : World} {K : PySem.W.Frag} {mg : Str → Option Value} {base : Heap}
def spLaw (K : PySem.W.Frag) : Sp := fun vs H Q _ => ∃ (a : Addr) (ns : List Int), vs = [.ref a] ∧ SqL K H a (ns.map V.int) ∧ ns.length ≤ 63 ∧ ∀ H', Q (.bl true) H'
theorem ok_law {f fI fP fK fV fR C T0 : Addr} {fd fdI fdP fdK fdV fdR : FuncData} {ds0 : List Value} {t3 : Tok} (F : Fun K "law" "law" sLaw f fd) (low : sysModules < base.objs.size) (T : HTxt K mg C) (M : Mk K C fI)
    (hT0 : SqT K (fun _ => none) T0 []) (bI0 : Binds K fdI ["self", "classes"] ds0) (vI0 : Vals [.ref T0] ds0) (bI1 : Binds K fdI ["self", "classes"] [])
    (FP : Fun K "_law_pot" "_law_pot" sPot fP fdP) (bP : Binds K fdP ["_law_script", "_law_k"] []) (gP : mg "_law_pot" = some (.ref fP))
    (FK : Fun K "_law_kinds" "_law_kinds" sKinds fK fdK) (bK : Binds K fdK ["_law_pot_here", "_law_most"] []) (gK : mg "_law_kinds" = some (.ref fK))
    (FV : Fun K "_law_value" "_law_value" sValue fV fdV) (bV : Binds K fdV ["_law_pot_here", "_law_names_here"] []) (gV : mg "_law_value" = some (.ref fV))
    (FR : Fun K "_law_right" "_law_right" sRight fR fdR) (bR : Binds K fdR ["_law_world", "_law_names_here", "_law_value_here"] []) (gR : mg "_law_right" = some (.ref fR))
    (GI : FnOk P w K mg base CX0 3 fI fdI ["self", "classes"] (spInit K C)) (GP : FnOk P w K mg base CX0 1 fP fdP ["_law_script", "_law_k"] (spPot K))
    (GK : FnOk P w K mg base CX0 4 fK fdK ["_law_pot_here", "_law_most"] spKinds) (GV : FnOk P w K mg base CX0 3 fV fdV ["_law_pot_here", "_law_names_here"] (spValue K))
    (GR : FnG P w K mg base CX0 3 fR fdR ["_law_world", "_law_names_here", "_law_value_here"] (spRight K C))
    (g3 : mg "MAX_PARAMETERS" = some (.int 3 t3))
    (mr : mg "range" = none) (mx : mg "max" = none) (mn : mg "min" = none) (ml : mg "len" = none) (ma : mg "all" = none) :
    FnG P w K mg base CX0 5 f fd ["_law_script"] (spLaw K) := by
  refine okG F scLaw (fun vs H Q E h => ?_) (fun cdv A outer s H vs Q E hg hr h => ?_)
  · obtain ⟨a, ns, rfl, _⟩ := h
    rfl
  · obtain ⟨a, ns, rfl, hS, hlen, q⟩ := h
    have hr3 := hr.mono (by decide : 3 ≤ 4)
    refine ⟨_, pss_cons (ps_asg (pe_tup (pa_cons (pe_make0 M GI hr (by rfl) T.mgC bI0 vI0 pass0)
          (pa_cons (pe_lst (pa_cons (pe_tup pa_nil) (pa_cons (pe_tup (pa_cons pe_str pa_nil)) (pa_cons pe_non (pa_cons pe_str (pa_cons (pe_lstN low pa_nil) (pa_cons (pe_tup (pa_cons pe_str pa_nil)) pa_nil))))))) pa_nil)))
          (pg_tup rfl (pgs_cons (pg_name (i := 1) scLaw.nd rfl (.inr rfl)) (pgs_cons (pg_name (i := 2) scLaw.nd rfl (.inl rfl)) pgs_nil))))
      (pss_cons (ps_if (PW.pt (pw_or (pt_cmpR op_ne (pe_glob (v := .int 3) (by rfl) g3 ⟨_, rfl⟩) pe_int (nomark _))
          (pw_or1 (pt_not (pt_val (pe_callB (cr_all rfl) (by rfl) ma (by decide +kernel) (pa_cons
            (pe_lc (own := [("_law_value_here", 8)]) (g := gName 8) (tt := tYes) rfl scLaw.nd (pi_list (pv 2))
              (blkOk_by (own := [("_law_value_here", 8)]) (N := NLaw) (sc := defScope sLaw) (by decide +kernel))
              (fun _ _ _ _ _ => pg_name (i := 8) scLaw.nd rfl (Or.inl rfl)) (fun _ _ _ _ _ => pts_nil)
              (fun _ _ _ _ _ => pe_callG GR hg hr3 (by rfl) gR FR.kp bR .nil pass0 (pa_cons (pv 1) (pa_cons (pe_lst pa_nil) (pa_cons (pv 8) pa_nil))))) pa_nil))))))) (pss_one (ps_ret pe_bl)) pss_nil)
      (pss_cons (ps_for PassesOwn.never rfl (pi_range1 rfl mr (pa_cons
          (pe_callB (call_max2 rfl) (by rfl) mx (by decide +kernel) (pa_cons pe_int (pa_cons
            (pe_callB (call_min2 rfl) (by rfl) mn (by decide +kernel) (pa_cons pe_int (pa_cons (pe_callB call_len_seq (by rfl) ml PySem.boot_len (pa_cons (pv 0) pa_nil)) pa_nil))) pa_nil))) pa_nil))
        (pg_name (i := 3) scLaw.nd rfl (.inl rfl))
        (pss_cons (ps_set (i := 4) scLaw.nd rfl (.inr rfl) (pe_call GP (hr.mono (by decide)) (by rfl) gP FP.kp bP .nil pass0 (pa_cons (pv 0) (pa_cons (pv 3) pa_nil))))
        (pss_cons (ps_set (i := 5) scLaw.nd rfl (.inl rfl) (pe_call GK hr (by rfl) gK FK.kp bK .nil pass0 (pa_cons (pv 4) (pa_cons pe_int pa_nil))))
        (pss_cons (ps_asg (pe_tup (pa_cons (pe_make M GI hr (by rfl) T.mgC bI1 .nil pass0 (pa_cons (pv 5) pa_nil)) (pa_cons
            (pe_lc (own := [("_law_row", 9)]) (g := gName 9) (tt := tYes) (te := tOp (rIxT K) (tVar 9) (tC (.int 0))) rfl scLaw.nd (pi_list (pv 5))
              (blkOk_by (own := [("_law_row", 9)]) (N := NLaw) (sc := defScope sLaw) (by decide +kernel))
              (fun _ _ _ _ _ => pg_name (i := 9) scLaw.nd rfl (Or.inl rfl)) (fun _ _ _ _ _ => pts_nil)
              (fun _ _ _ _ _ => pe_ix ix_tup (pv 9) pe_int (fun _ _ => rfl))) pa_nil)))
            (pg_tup rfl (pgs_cons (pg_name (i := 6) scLaw.nd rfl (.inr rfl)) (pgs_cons (pg_name (i := 7) scLaw.nd rfl (.inr rfl)) pgs_nil))))
        (pss_one (ps_if (pt_not (pt_val (pe_callB (cr_all rfl) (by rfl) ma (by decide +kernel) (pa_cons
            (pe_lc (own := [("_law_turn", 10)]) (g := gName 10) (tt := tYes) rfl scLaw.nd (pi_range1 rfl mr (pa_cons pe_int pa_nil))
              (blkOk_by (own := [("_law_turn", 10)]) (N := NLaw) (sc := defScope sLaw) (by decide +kernel))
              (fun _ _ _ _ _ => pg_name (i := 10) scLaw.nd rfl (Or.inl rfl)) (fun _ _ _ _ _ => pts_nil)
              (fun _ _ _ _ _ => pe_callG GR hg hr3 (by rfl) gR FR.kp bR .nil pass0 (pa_cons (pv 6) (pa_cons (pv 7)
                (pa_cons (pe_call GV hr3 (by rfl) gV FV.kp bV .nil pass0 (pa_cons (pv 4) (pa_cons (pv 7) pa_nil))) pa_nil))))) pa_nil)))) (pss_one (ps_ret pe_bl)) pss_nil))))))
      (pss_one (ps_ret pe_bl)))), ?_⟩
    intro x0 dx0 nx ndx nex
    have hs0 : Same H (upd (upd H dx0 (.own x0)) x0 (.ins C dx0 [])) := by
      intro b o e
      rw [upd_ne (ne_of_none e nx), upd_ne (ne_of_none e ndx)]
      exact e
    refine ⟨x0, dx0, T0, [], [], rfl, upd_same, .inr ⟨sqT_same hT0 (fun b o e => (nomatch e)), rfl⟩, .nil, valid_nil, by decide, fun H1 hH1 b1 => ⟨rfl, ?_⟩⟩
    have s1 : Same H H1 := fun b o e => b1 _ _ (ne_of_none e nx) (hs0 _ _ e)
    refine ⟨(by decide : 0 ≤ sizeLine), fun c1 n1 => ⟨(by decide : 1 ≤ sizeLine), fun c2 n2 => ⟨(by decide : 0 ≤ sizeLine), fun c3 n3 z3 => ⟨(by decide : 1 ≤ sizeLine), fun c4 n4 => ⟨(by decide : 6 ≤ sizeLine), fun l nl => ⟨(by decide : 2 ≤ sizeLine), fun t nt => ?_⟩⟩⟩⟩⟩⟩
    have t1 := same_new (o := .tup []) n1
    have t2 := same_new (o := .tup [.str "a"]) n2
    have t3 := same_new (o := .lst []) n3
    have t4 := same_new (o := .tup [.str ""]) n4
    have t5 := same_new (o := .lst [.ref c1, .ref c2, .non, .str "a", .ref c3, .ref c4]) nl
    have t6 := same_new (o := .tup [.ref x0, .ref l]) nt
    refine ⟨t, [.ref x0, .ref l], rfl, .inl (.inl upd_same), rfl, _, _, rfl, _, _, rfl, rfl, ?_⟩
    have q5 := t5.trans t6
    have q4 := t4.trans q5
    have q3 := t3.trans q4
    have q2 := t2.trans q3
    have q1 := t1.trans q2
    have e1 := q2 _ _ (upd_same (a := c1))
    have e2 := q3 _ _ (upd_same (a := c2))
    have e3 := q4 _ _ (upd_same (a := c3))
    have e4 := q5 _ _ (upd_same (a := c4))
    have el := t6 _ _ (upd_same (a := l))
    generalize hG : upd (upd (upd (upd (upd (upd H1 c1 (.tup [])) c2 (.tup [.str "a"])) c3 (.lst [])) c4 (.tup [.str ""])) l (.lst [.ref c1, .ref c2, .non, .str "a", .ref c3, .ref c4])) t (.tup [.ref x0, .ref l]) = G at *
    have hHG := hH1.same q1
    have sG := s1.trans q1
    refine ⟨rfl, _, rfl, ?_⟩
    show if (!decide (V.int 3 = V.int 3)) = true then _ else _
    rw [decide_eq_true rfl]
    refine iteF ?_
    refine ⟨.ref l, rfl, l, rfl, ⟨_, .inl (.inl el)⟩, fun D nD => ?_⟩
    have sma : Sm 1 "a" := ⟨by decide +kernel, by decide +kernel⟩
    have sme : Sm 1 "" := ⟨by decide +kernel, by decide +kernel⟩
    have gd : ∀ v ∈ [V.ref c1, .ref c2, .non, .str "a", .ref c3, .ref c4], GoodN 3000 10 K G v := by
      intro v hv
      simp only [List.mem_cons, List.not_mem_nil, or_false] at hv
      rcases hv with rfl | rfl | rfl | rfl | rfl | rfl
      · exact ⟨_, .tup (.inl (.inl e1)) .nil, (Fit.tup (m := 3) fitAll_nil).mono (by decide) (by decide)⟩
      · exact ⟨_, .tup (.inl (.inl e2)) (.cons (.str "a") .nil), (Fit.tup (FitAll.cons sma.fit fitAll_nil)).mono (by decide) (by decide)⟩
      · exact ⟨_, .non, fit_non.mono (by decide) (by decide)⟩
      · exact ⟨_, .str "a", sma.fit.mono (by decide) (by decide)⟩
      · exact ⟨_, .lst (.inl (.inl e3)) (fun _ => z3) .nil, (Fit.lst (m := 3) fitAll_nil).mono (by decide) (by decide)⟩
      · exact ⟨_, .tup (.inl (.inl e4)) (.cons (.str "") .nil), (Fit.tup (FitAll.cons sme.fit fitAll_nil)).mono (by decide) (by decide)⟩
    refine lc_list (xs := [V.ref c1, .ref c2, .non, .str "a", .ref c3, .ref c4]) (fun j H5 => H5 D = some (.lst ((List.replicate j true).map V.bl)) ∧ Same G H5 ∧ j ≤ 6)
      ⟨upd_same, same_new nD, by decide⟩ (fun j H5 _ hP => .inl (.inl (hP.2.1 _ _ el))) (fun j v H5 hv hP => ?_) (fun H5 hP => ?_)
    · obtain ⟨eD, s5, _⟩ := hP
      have hj : j < 6 := (List.getElem?_eq_some_iff.mp hv).1
      refine ⟨rfl, .ref x0, rfl, (by decide : 0 ≤ sizeLine), fun e ne => ?_⟩
      have se := same_new (o := .lst []) ne
      have s5e := s5.trans se
      refine ⟨v, rfl, x0, e, v, [], rfl, hHG.same s5e, .inl (.inl upd_same), (gd v (List.mem_of_getElem? hv)).same s5e, fun H7 s7 => ?_⟩
      refine ⟨_, s7 _ _ (se _ _ eD), ?_, ?_, ?_, by omega⟩
      · rw [List.length_map, List.length_replicate]
        exact sz1 (by omega)
      · rw [upd_same, List.replicate_succ', List.map_append]
        rfl
      · intro b o hb
        rw [upd_ne (ne_of_none hb nD)]
        exact s7 _ _ (s5e _ _ hb)
    · obtain ⟨eD, s5, _⟩ := hP
      refine ⟨D, _, rfl, .inl (.inl eD), _, rfl, ?_⟩
      rw [all_true]
      refine iteF ?_
      have sH5 := sG.trans s5
      refine ⟨.ref a, rfl, a, _, rfl, .inl (sH5.seq hS), _, _, rfl, _, _, rfl, _, rfl, ?_, ?_, ?_⟩
      · rw [List.length_map]
        split <;> split <;> omega
      · rw [List.length_map]
        split <;> split <;> omega
      · refine for_range (fun i σ H6 => ∃ y3 y4 y5 y6 y7, σ = [some (.ref a), some (.ref x0), some (.ref l), y3, y4, y5, y6, y7, none, none, none] ∧ i ≤ 100 ∧ Same H H6)
          ⟨none, none, none, none, none, rfl, by decide, sH5⟩ (fun i σ H6 hi hP => ?_) (fun σ H6 hP => ?_)
        · obtain ⟨y3, y4, y5, y6, y7, rfl, hi2, s6⟩ := hP
          have hi3 : i < 100 := by
            rw [List.length_map] at hi
            revert hi
            split <;> split <;> omega
          refine ⟨.ref a, rfl, .int (0 + (i : Int)), rfl, a, ns, i, by rw [Int.zero_add]; rfl, s6.seq hS, by omega, fun p H7 s7 np hp => ?_⟩
          have np0 : H p = none := s6.free np
          have s07 := s6.trans s7
          refine ⟨.ref p, rfl, p, 8, rfl, hp, by decide, by decide, fun H8 R us rows hp8 b8 nR neR eR era eva l1 l2 => ?_⟩
          have s08 : Same H H8 := b8.same np0 s07
          refine ⟨.ref R, rfl, ?_⟩
          intro x dx nx8 ndx8 nex8
          have hsM : Same H8 (upd (upd H8 dx (.own x)) x (.ins C dx [])) := by
            intro b o e
            rw [upd_ne (ne_of_none e nx8), upd_ne (ne_of_none e ndx8)]
            exact e
          refine ⟨x, dx, R, us, rows, rfl, upd_same, .inl (.inl (.inl (hsM _ _ eR))), era.same hsM, eva, by omega, fun H9 hH9 b9 => ⟨rfl, ?_⟩⟩
          have s89 : Same H8 H9 := fun b o e => b9 _ _ (ne_of_none e nx8) (hsM _ _ e)
          have era9 := era.same s89
          have R9 := s89 _ _ eR
          refine ⟨.ref R, rfl, R, rfl, ⟨_, .inl (.inl R9)⟩, fun D1 nD1 => ?_⟩
          have nDR : R ≠ D1 := ne_of_none R9 nD1
          refine lc_list (xs := us) (fun j H10 => H10 = upd H9 D1 (.lst (((fsts rows).take j).map V.str))) rfl (fun j H10 _ hP => ?_) (fun j v H10 hv hP => ?_) (fun H10 hP => ?_)
          · subst hP
            exact .inl (.inl (by rw [upd_ne nDR]; exact R9))
          · subst hP
            obtain ⟨r, hr1, tt, sA, rfl, et, es⟩ := era9.get hv
            have jl : j < us.length := (List.getElem?_eq_some_iff.mp hv).1
            have lu := era9.length
            refine ⟨rfl, .ref tt, rfl, tt, [.str r.1, .ref sA], 0, .str r.1, rfl, rfl, .inl (.inl (by rw [upd_ne (ne_of_none et nD1)]; exact et)), atI_nat (j := 0) rfl, _, upd_same, ?_, ?_⟩
            · rw [List.length_map, List.length_take]
              exact sz1 (by omega)
            · have hf : (fsts rows)[j]? = some r.1 := by
                unfold fsts
                rw [List.getElem?_map, hr1]
                rfl
              rw [upd_upd, List.take_add_one, hf, List.map_append]
              rfl
          · subst hP
            have lu := era9.length
            have etk : (fsts rows).take us.length = fsts rows := List.take_of_length_le (by
              rw [fsts_len]
              omega)
            rw [etk]
            refine ⟨(by decide : 2 ≤ sizeLine), fun t2' nt2 => ?_⟩
            refine ⟨t2', [.ref x, .ref D1], rfl, .inl (.inl upd_same), rfl, _, _, rfl, _, _, rfl, rfl, ?_⟩
            have sD1 := same_new (o := .lst ((fsts rows).map V.str)) nD1
            have sT2 := same_new (o := .tup [.ref x, .ref D1]) nt2
            have eD1 := sT2 _ _ (upd_same (a := D1))
            have hH2 := (hH9.same sD1).same sT2
            have s92 := sD1.trans sT2
            have p2 := (hp8.same s89).same s92
            have s02 := s08.trans (s89.trans s92)
            generalize hG2 : upd (upd H9 D1 (.lst ((fsts rows).map V.str))) t2' (.tup [.ref x, .ref D1]) = G2 at *
            have nD1p : D1 ≠ p := by
              intro z
              obtain ⟨_, _, ep, _⟩ := hp8
              have := s89 _ _ ep
              rw [← z, nD1] at this
              cases this
            refine ⟨10, rfl, by decide, by decide, fun D2 nD2 => ?_⟩
            have pD2 : p ≠ D2 := by
              obtain ⟨_, _, ep, _⟩ := p2
              exact ne_of_none ep nD2
            refine lc_range (lo := 0) (n := 10) (fun j H11 => H11 D2 = some (.lst ((List.replicate j true).map V.bl)) ∧ PotAt H11 p ∧ But p G2 H11 ∧ j ≤ 10)
              ⟨upd_same, p2.same (same_new nD2), But.of_same (same_new nD2), by decide⟩ (fun j H11 hj hP => ?_) (fun H11 hP => ?_)
            · obtain ⟨eD2, hp11, b11, _⟩ := hP
              obtain ⟨n0, nr, hn⟩ : ∃ n0 nr, fsts rows = n0 :: nr := by
                cases hz : fsts rows with
                | nil =>
                  have := fsts_len rows
                  rw [hz] at this
                  have z : ([] : List Str).length = 0 := rfl
                  omega
                | cons n0 nr => exact ⟨n0, nr, rfl⟩
              have eD11 := b11 _ _ nD1p eD1
              have hH11 := hH2.but p2 b11
              refine ⟨rfl, .ref x, rfl, .ref D1, rfl, .ref p, rfl, .ref D1, rfl, p, D1, n0, nr, rfl, hp11, by rw [← hn]; exact eD11, nD1p, ?_, ?_, fun H12 v hp12 b12 gv => ?_⟩
              · intro y hy
                rw [← hn] at hy
                exact name_sm (valid_names eva y hy)
              · rw [← hn, fsts_len]
                omega
              · refine ⟨x, D1, v, rows, rfl, hH11.but hp11 b12, .inl (.inl (b12 _ _ nD1p eD11)), gv, fun H13 s13 => ?_⟩
                refine ⟨_, s13 _ _ (b12 _ _ pD2.symm eD2), ?_, ?_, ?_, ?_, by omega⟩
                · rw [List.length_map, List.length_replicate]
                  exact sz1 (by omega)
                · rw [upd_same, List.replicate_succ', List.map_append]
                  rfl
                · obtain ⟨r, g, e, h⟩ := hp12
                  exact ⟨r, g, by rw [upd_ne pD2]; exact s13 _ _ e, h⟩
                · intro b o nb hb
                  rw [upd_ne (ne_of_none hb nD2)]
                  exact s13 _ _ (b12 _ _ nb (b11 _ _ nb hb))
            · obtain ⟨eD2, hp11, b11, _⟩ := hP
              refine ⟨D2, _, rfl, .inl (.inl eD2), _, rfl, ?_⟩
              rw [all_true]
              exact iteF ⟨_, _, _, _, _, rfl, by omega, b11.same np0 s02⟩
        · obtain ⟨y3, y4, y5, y6, y7, rfl, _, s6⟩ := hP
          exact q _
end
end Lw
namespace Lw
open PySem PySem.Spec PyProof.Rows L2 Kv
theorem all_mk {l : PySem.W.OpenLaw} {w : World} {K : PySem.W.Frag} {h : Heap} {mg : Str → Option Value} {fa C f0 f1 f2 f3 f4 f5 f6 f7 f8 f9 f10 f11 f12 f13 f14 f15 f16 h0 h1 : Addr}
    {u0 : Tok} {u1 : Tok} {u2 : Tok} (X : K.In h) (G : h.Ns mainGlobals mg) (hfa : mg "law" = some (.ref fa))
    (a0 : PySem.W.nsIn K mainGlobals "is_parameter_count" = some (some (.ref f0)))
    {oc0 kV0 dc0 pm0 cd0 ct0 : Value} {od0 an0 : Option Addr} {sl0 : Array (Option Value)}
    (l0 : K.lookup f0 = some ⟨oc0, od0, .func (PySem.W.fnOf "is_parameter_count" "is_parameter_count" (defArgs sIsCount) (defBody sIsCount) (defScope sIsCount)
      .none kV0 dc0 pm0 an0 cd0 ct0), sl0⟩)
    (c0 : PySem.W.codeIn K cd0 "is_parameter_count" = true) (k0 : PySem.W.keepIn K (.ref f0) = true)
    (a1 : PySem.W.nsIn K mainGlobals "is_point" = some (some (.ref f1)))
    {oc1 kV1 dc1 pm1 cd1 ct1 : Value} {od1 an1 : Option Addr} {sl1 : Array (Option Value)}
    (l1 : K.lookup f1 = some ⟨oc1, od1, .func (PySem.W.fnOf "is_point" "is_point" (defArgs sIsPoint) (defBody sIsPoint) (defScope sIsPoint)
      .none kV1 dc1 pm1 an1 cd1 ct1), sl1⟩)
    (c1 : PySem.W.codeIn K cd1 "is_point" = true) (k1 : PySem.W.keepIn K (.ref f1) = true)
    (a2 : PySem.W.nsIn K mainGlobals "is_name" = some (some (.ref f2)))
    {oc2 kV2 dc2 pm2 cd2 ct2 : Value} {od2 an2 : Option Addr} {sl2 : Array (Option Value)}
    (l2 : K.lookup f2 = some ⟨oc2, od2, .func (PySem.W.fnOf "is_name" "is_name" (defArgs sIsName) (defBody sIsName) (defScope sIsName)
      .none kV2 dc2 pm2 an2 cd2 ct2), sl2⟩)
    (c2 : PySem.W.codeIn K cd2 "is_name" = true) (k2 : PySem.W.keepIn K (.ref f2) = true)
    (a3 : PySem.W.nsIn K mainGlobals "are_superclasses" = some (some (.ref f3)))
    {oc3 kV3 dc3 pm3 cd3 ct3 : Value} {od3 an3 : Option Addr} {sl3 : Array (Option Value)}
    (l3 : K.lookup f3 = some ⟨oc3, od3, .func (PySem.W.fnOf "are_superclasses" "are_superclasses" (defArgs sAre) (defBody sAre) (defScope sAre)
      .none kV3 dc3 pm3 an3 cd3 ct3), sl3⟩)
    (c3 : PySem.W.codeIn K cd3 "are_superclasses" = true) (k3 : PySem.W.keepIn K (.ref f3) = true)
    (a4 : PySem.W.nsIn K mainGlobals "row_problem" = some (some (.ref f4)))
    {oc4 kV4 dc4 pm4 cd4 ct4 : Value} {od4 an4 : Option Addr} {sl4 : Array (Option Value)}
    (l4 : K.lookup f4 = some ⟨oc4, od4, .func (PySem.W.fnOf "row_problem" "row_problem" (defArgs sProb) (defBody sProb) (defScope sProb)
      .none kV4 dc4 pm4 an4 cd4 ct4), sl4⟩)
    (c4 : PySem.W.codeIn K cd4 "row_problem" = true) (k4 : PySem.W.keepIn K (.ref f4) = true)
    (a5 : PySem.W.nsIn K mainGlobals "ancestors_of" = some (some (.ref f5)))
    {oc5 kV5 dc5 pm5 cd5 ct5 : Value} {od5 an5 : Option Addr} {sl5 : Array (Option Value)}
    (l5 : K.lookup f5 = some ⟨oc5, od5, .func (PySem.W.fnOf "ancestors_of" "ancestors_of" (defArgs sAnc) (defBody sAnc) (defScope sAnc)
      .none kV5 dc5 pm5 an5 cd5 ct5), sl5⟩)
    (c5 : PySem.W.codeIn K cd5 "ancestors_of" = true) (k5 : PySem.W.keepIn K (.ref f5) = true)
    (a6 : PySem.W.nsIn K mainGlobals "_law_pot" = some (some (.ref f6)))
    {oc6 kV6 dc6 pm6 cd6 ct6 : Value} {od6 an6 : Option Addr} {sl6 : Array (Option Value)}
    (l6 : K.lookup f6 = some ⟨oc6, od6, .func (PySem.W.fnOf "_law_pot" "_law_pot" (defArgs sPot) (defBody sPot) (defScope sPot)
      .none kV6 dc6 pm6 an6 cd6 ct6), sl6⟩)
    (c6 : PySem.W.codeIn K cd6 "_law_pot" = true) (k6 : PySem.W.keepIn K (.ref f6) = true)
    (a7 : PySem.W.nsIn K mainGlobals "_law_draw" = some (some (.ref f7)))
    {oc7 kV7 dc7 pm7 cd7 ct7 : Value} {od7 an7 : Option Addr} {sl7 : Array (Option Value)}
    (l7 : K.lookup f7 = some ⟨oc7, od7, .func (PySem.W.fnOf "_law_draw" "_law_draw" (defArgs sDraw) (defBody sDraw) (defScope sDraw)
      .none kV7 dc7 pm7 an7 cd7 ct7), sl7⟩)
    (c7 : PySem.W.codeIn K cd7 "_law_draw" = true) (k7 : PySem.W.keepIn K (.ref f7) = true)
    (a8 : PySem.W.nsIn K mainGlobals "_law_mixed" = some (some (.ref f8)))
    {oc8 kV8 dc8 pm8 cd8 ct8 : Value} {od8 an8 : Option Addr} {sl8 : Array (Option Value)}
    (l8 : K.lookup f8 = some ⟨oc8, od8, .func (PySem.W.fnOf "_law_mixed" "_law_mixed" (defArgs sMixed) (defBody sMixed) (defScope sMixed)
      .none kV8 dc8 pm8 an8 cd8 ct8), sl8⟩)
    (c8 : PySem.W.codeIn K cd8 "_law_mixed" = true) (k8 : PySem.W.keepIn K (.ref f8) = true)
    (a9 : PySem.W.nsIn K mainGlobals "_law_name" = some (some (.ref f9)))
    {oc9 kV9 dc9 pm9 cd9 ct9 : Value} {od9 an9 : Option Addr} {sl9 : Array (Option Value)}
    (l9 : K.lookup f9 = some ⟨oc9, od9, .func (PySem.W.fnOf "_law_name" "_law_name" (defArgs sName) (defBody sName) (defScope sName)
      .none kV9 dc9 pm9 an9 cd9 ct9), sl9⟩)
    (c9 : PySem.W.codeIn K cd9 "_law_name" = true) (k9 : PySem.W.keepIn K (.ref f9) = true)
    (a10 : PySem.W.nsIn K mainGlobals "_law_names" = some (some (.ref f10)))
    {oc10 kV10 dc10 pm10 cd10 ct10 : Value} {od10 an10 : Option Addr} {sl10 : Array (Option Value)}
    (l10 : K.lookup f10 = some ⟨oc10, od10, .func (PySem.W.fnOf "_law_names" "_law_names" (defArgs sNames) (defBody sNames) (defScope sNames)
      .none kV10 dc10 pm10 an10 cd10 ct10), sl10⟩)
    (c10 : PySem.W.codeIn K cd10 "_law_names" = true) (k10 : PySem.W.keepIn K (.ref f10) = true)
    (a11 : PySem.W.nsIn K mainGlobals "_law_kinds" = some (some (.ref f11)))
    {oc11 kV11 dc11 pm11 cd11 ct11 : Value} {od11 an11 : Option Addr} {sl11 : Array (Option Value)}
    (l11 : K.lookup f11 = some ⟨oc11, od11, .func (PySem.W.fnOf "_law_kinds" "_law_kinds" (defArgs sKinds) (defBody sKinds) (defScope sKinds)
      .none kV11 dc11 pm11 an11 cd11 ct11), sl11⟩)
    (c11 : PySem.W.codeIn K cd11 "_law_kinds" = true) (k11 : PySem.W.keepIn K (.ref f11) = true)
    (a12 : PySem.W.nsIn K mainGlobals "_law_odd" = some (some (.ref f12)))
    {oc12 kV12 dc12 pm12 cd12 ct12 : Value} {od12 an12 : Option Addr} {sl12 : Array (Option Value)}
    (l12 : K.lookup f12 = some ⟨oc12, od12, .func (PySem.W.fnOf "_law_odd" "_law_odd" (defArgs sOdd) (defBody sOdd) (defScope sOdd)
      .none kV12 dc12 pm12 an12 cd12 ct12), sl12⟩)
    (c12 : PySem.W.codeIn K cd12 "_law_odd" = true) (k12 : PySem.W.keepIn K (.ref f12) = true)
    (a13 : PySem.W.nsIn K mainGlobals "_law_value" = some (some (.ref f13)))
    {oc13 kV13 dc13 pm13 cd13 ct13 : Value} {od13 an13 : Option Addr} {sl13 : Array (Option Value)}
    (l13 : K.lookup f13 = some ⟨oc13, od13, .func (PySem.W.fnOf "_law_value" "_law_value" (defArgs sValue) (defBody sValue) (defScope sValue)
      .none kV13 dc13 pm13 an13 cd13 ct13), sl13⟩)
    (c13 : PySem.W.codeIn K cd13 "_law_value" = true) (k13 : PySem.W.keepIn K (.ref f13) = true)
    (a14 : PySem.W.nsIn K mainGlobals "_law_is_due" = some (some (.ref f14)))
    {oc14 kV14 dc14 pm14 cd14 ct14 : Value} {od14 an14 : Option Addr} {sl14 : Array (Option Value)}
    (l14 : K.lookup f14 = some ⟨oc14, od14, .func (PySem.W.fnOf "_law_is_due" "_law_is_due" (defArgs sDue) (defBody sDue) (defScope sDue)
      .none kV14 dc14 pm14 an14 cd14 ct14), sl14⟩)
    (c14 : PySem.W.codeIn K cd14 "_law_is_due" = true) (k14 : PySem.W.keepIn K (.ref f14) = true)
    (a15 : PySem.W.nsIn K mainGlobals "_law_right" = some (some (.ref f15)))
    {oc15 kV15 dc15 pm15 cd15 ct15 : Value} {od15 an15 : Option Addr} {sl15 : Array (Option Value)}
    (l15 : K.lookup f15 = some ⟨oc15, od15, .func (PySem.W.fnOf "_law_right" "_law_right" (defArgs sRight) (defBody sRight) (defScope sRight)
      .none kV15 dc15 pm15 an15 cd15 ct15), sl15⟩)
    (c15 : PySem.W.codeIn K cd15 "_law_right" = true) (k15 : PySem.W.keepIn K (.ref f15) = true)
    (a16 : PySem.W.nsIn K mainGlobals "law" = some (some (.ref f16)))
    {oc16 kV16 dc16 pm16 cd16 ct16 : Value} {od16 an16 : Option Addr} {sl16 : Array (Option Value)}
    (l16 : K.lookup f16 = some ⟨oc16, od16, .func (PySem.W.fnOf "law" "law" (defArgs sLaw) (defBody sLaw) (defScope sLaw)
      .none kV16 dc16 pm16 an16 cd16 ct16), sl16⟩)
    (c16 : PySem.W.codeIn K cd16 "law" = true) (k16 : PySem.W.keepIn K (.ref f16) = true)
    (aC : PySem.W.nsIn K mainGlobals "Hierarchy" = some (some (.ref C)))
    {TD T0 : Addr} {ocT : Value} {odT odU : Option Addr} {nT nU : Nat} {slT slU : Array (Option Value)} {uL : Tok}
    (m0 : PySem.W.findIn K (.ref C) "__init__" = some (some (.ref h0))) (i0 : PySem.W.isFn K (.ref h0) = true)
    {ocM0 kVM0 dcM0 pmM0 cdM0 ctM0 : Value} {odM0 anM0 : Option Addr} {slM0 : Array (Option Value)}
    (lM0 : K.lookup h0 = some ⟨ocM0, odM0, .func (PySem.W.fnOf "__init__" "Hierarchy.__init__" (defArgs m_init) (defBody m_init) (defScope m_init)
      (.ref TD) kVM0 dcM0 pmM0 anM0 cdM0 ctM0), slM0⟩)
    (cM0 : PySem.W.codeIn K cdM0 "Hierarchy.__init__" = true) (kM0 : PySem.W.keepIn K (.ref h0) = true)
    (m1 : PySem.W.findIn K (.ref C) "has_class" = some (some (.ref h1))) (i1 : PySem.W.isFn K (.ref h1) = true)
    {ocM1 kVM1 dcM1 pmM1 cdM1 ctM1 : Value} {odM1 anM1 : Option Addr} {slM1 : Array (Option Value)}
    (lM1 : K.lookup h1 = some ⟨ocM1, odM1, .func (PySem.W.fnOf "has_class" "Hierarchy.has_class" (defArgs m_has_class) (defBody m_has_class) (defScope m_has_class)
      .none kVM1 dcM1 pmM1 anM1 cdM1 ctM1), slM1⟩)
    (cM1 : PySem.W.codeIn K cdM1 "Hierarchy.has_class" = true) (kM1 : PySem.W.keepIn K (.ref h1) = true)
    (lT : K.lookup TD = some ⟨ocT, odT, .seq #[.ref T0] nT, slT⟩)
    (lU : K.lookup T0 = some ⟨.type "tuple", odU, .seq #[] nU, slU⟩)
    (pg : PySem.W.plainGet K C Str.empty = true)
    (hd : PySem.W.hasDictIn K C = true)
    (po : PySem.W.plainOver K C = true)
    (sa : PySem.W.findIn K (.ref C) "__setattr__" = some (some (.builtin "object.__setattr__")))
    (mk : PySem.W.makesIn K C = true)
    (kc : PySem.W.keepIn K (.ref C) = true)
    (nR : PySem.W.findIn K (.ref C) "rows" = some none)
    (nP : PySem.W.findIn K (.ref C) "places" = some none)
    (nA : PySem.W.findIn K (.ref C) "above" = some none)
    (rd : PySem.W.readsIn K C (.type "type") = true)
    (ga : PySem.W.specialIn K (.ref C) "__getattribute__" = some (some (.builtin "type.__getattribute__")))
    (cl : PySem.W.findCls K (.ref C) (.type "type") "LIMIT" = some (.val (.int 20 uL)))
    (e0 : PySem.W.nsIn K mainGlobals "LETTERS" = some (some (.str "abcdefghijklmnopqrstuvwxyz" u0)))
    (e1 : PySem.W.nsIn K mainGlobals "LONGEST_NAME" = some (some (.int 8 u1)))
    (e2 : PySem.W.nsIn K mainGlobals "MAX_PARAMETERS" = some (some (.int 3 u2)))
    (z0 : PySem.W.nsIn K mainGlobals "len" = some none)
    (z1 : PySem.W.nsIn K mainGlobals "max" = some none)
    (z2 : PySem.W.nsIn K mainGlobals "min" = some none)
    (z3 : PySem.W.nsIn K mainGlobals "abs" = some none)
    (z4 : PySem.W.nsIn K mainGlobals "divmod" = some none)
    (z5 : PySem.W.nsIn K mainGlobals "range" = some none)
    (z6 : PySem.W.nsIn K mainGlobals "str" = some none)
    (z7 : PySem.W.nsIn K mainGlobals "isinstance" = some none)
    (z8 : PySem.W.nsIn K mainGlobals "all" = some none)
    (z9 : PySem.W.nsIn K mainGlobals "repr" = some none)
    (z10 : PySem.W.nsIn K mainGlobals "tuple" = some none)
    (z11 : PySem.W.nsIn K mainGlobals "list" = some none)
    (z12 : PySem.W.nsIn K mainGlobals "set" = some none)
    (z13 : PySem.W.nsIn K mainGlobals "int" = some none)
    (z14 : PySem.W.nsIn K mainGlobals "bool" = some none)
    (z15 : PySem.W.nsIn K mainGlobals "enumerate" = some none)
    : ∃ fd : FuncData, (∀ (s : Shared) (v : Value), BindsTo s fd ⟨[v], []⟩ [("_law_script", v)]) ∧
      ∀ base : Heap, K.In base → base.Ns mainGlobals mg → sysModules < base.objs.size →
        FnG l.prog w K mg base CX0 5 fa fd ["_law_script"] (spLaw K) := by
  have e := hfa.symm.trans (PySem.W.mg_of X G a16)
  cases e
  have F_is_parameter_count := fun_mk (st := sIsCount) l0 c0 k0
  have b_is_parameter_count := F_is_parameter_count.binds (ps := ["value"]) fun _ _ _ _ _ _ us hl =>
    match us, hl with | [_], _ => rfl
  have g_is_parameter_count := PySem.W.mg_of X G a0
  have F_is_point := fun_mk (st := sIsPoint) l1 c1 k1
  have b_is_point := F_is_point.binds (ps := ["hierarchy", "value"]) fun _ _ _ _ _ _ us hl =>
    match us, hl with | [_, _], _ => rfl
  have g_is_point := PySem.W.mg_of X G a1
  have F_is_name := fun_mk (st := sIsName) l2 c2 k2
  have b_is_name := F_is_name.binds (ps := ["value"]) fun _ _ _ _ _ _ us hl =>
    match us, hl with | [_], _ => rfl
  have g_is_name := PySem.W.mg_of X G a2
  have F_are_superclasses := fun_mk (st := sAre) l3 c3 k3
  have b_are_superclasses := F_are_superclasses.binds (ps := ["value", "known"]) fun _ _ _ _ _ _ us hl =>
    match us, hl with | [_, _], _ => rfl
  have g_are_superclasses := PySem.W.mg_of X G a3
  have F_row_problem := fun_mk (st := sProb) l4 c4 k4
  have b_row_problem := F_row_problem.binds (ps := ["row", "known"]) fun _ _ _ _ _ _ us hl =>
    match us, hl with | [_, _], _ => rfl
  have g_row_problem := PySem.W.mg_of X G a4
  have F_ancestors_of := fun_mk (st := sAnc) l5 c5 k5
  have b_ancestors_of := F_ancestors_of.binds (ps := ["name", "superclasses", "above"]) fun _ _ _ _ _ _ us hl =>
    match us, hl with | [_, _, _], _ => rfl
  have g_ancestors_of := PySem.W.mg_of X G a5
  have F__law_pot := fun_mk (st := sPot) l6 c6 k6
  have b__law_pot := F__law_pot.binds (ps := ["_law_script", "_law_k"]) fun _ _ _ _ _ _ us hl =>
    match us, hl with | [_, _], _ => rfl
  have g__law_pot := PySem.W.mg_of X G a6
  have F__law_draw := fun_mk (st := sDraw) l7 c7 k7
  have b__law_draw := F__law_draw.binds (ps := ["_law_pot_here", "_law_many"]) fun _ _ _ _ _ _ us hl =>
    match us, hl with | [_, _], _ => rfl
  have g__law_draw := PySem.W.mg_of X G a7
  have F__law_mixed := fun_mk (st := sMixed) l8 c8 k8
  have b__law_mixed := F__law_mixed.binds (ps := ["_law_pot_here", "_law_some"]) fun _ _ _ _ _ _ us hl =>
    match us, hl with | [_, _], _ => rfl
  have g__law_mixed := PySem.W.mg_of X G a8
  have F__law_name := fun_mk (st := sName) l9 c9 k9
  have b__law_name := F__law_name.binds (ps := ["_law_pot_here"]) fun _ _ _ _ _ _ us hl =>
    match us, hl with | [_], _ => rfl
  have g__law_name := PySem.W.mg_of X G a9
  have F__law_names := fun_mk (st := sNames) l10 c10 k10
  have b__law_names := F__law_names.binds (ps := ["_law_pot_here", "_law_many"]) fun _ _ _ _ _ _ us hl =>
    match us, hl with | [_, _], _ => rfl
  have g__law_names := PySem.W.mg_of X G a10
  have F__law_kinds := fun_mk (st := sKinds) l11 c11 k11
  have b__law_kinds := F__law_kinds.binds (ps := ["_law_pot_here", "_law_most"]) fun _ _ _ _ _ _ us hl =>
    match us, hl with | [_, _], _ => rfl
  have g__law_kinds := PySem.W.mg_of X G a11
  have F__law_odd := fun_mk (st := sOdd) l12 c12 k12
  have b__law_odd := F__law_odd.binds (ps := ["_law_pot_here", "_law_names_here"]) fun _ _ _ _ _ _ us hl =>
    match us, hl with | [_, _], _ => rfl
  have g__law_odd := PySem.W.mg_of X G a12
  have F__law_value := fun_mk (st := sValue) l13 c13 k13
  have b__law_value := F__law_value.binds (ps := ["_law_pot_here", "_law_names_here"]) fun _ _ _ _ _ _ us hl =>
    match us, hl with | [_, _], _ => rfl
  have g__law_value := PySem.W.mg_of X G a13
  have F__law_is_due := fun_mk (st := sDue) l14 c14 k14
  have b__law_is_due := F__law_is_due.binds (ps := ["_law_value_here", "_law_names_here"]) fun _ _ _ _ _ _ us hl =>
    match us, hl with | [_, _], _ => rfl
  have g__law_is_due := PySem.W.mg_of X G a14
  have F__law_right := fun_mk (st := sRight) l15 c15 k15
  have b__law_right := F__law_right.binds (ps := ["_law_world", "_law_names_here", "_law_value_here"]) fun _ _ _ _ _ _ us hl =>
    match us, hl with | [_, _, _], _ => rfl
  have g__law_right := PySem.W.mg_of X G a15
  have F_law := fun_mk (st := sLaw) l16 c16 k16
  have b_law := F_law.binds (ps := ["_law_script"]) fun _ _ _ _ _ _ us hl =>
    match us, hl with | [_], _ => rfl
  have g_law := PySem.W.mg_of X G a16
  have q_LETTERS := PySem.W.mg_of X G e0
  have q_LONGEST_NAME := PySem.W.mg_of X G e1
  have q_MAX_PARAMETERS := PySem.W.mg_of X G e2
  have n_len := PySem.W.mg_none_of X G z0
  have n_max := PySem.W.mg_none_of X G z1
  have n_min := PySem.W.mg_none_of X G z2
  have n_abs := PySem.W.mg_none_of X G z3
  have n_divmod := PySem.W.mg_none_of X G z4
  have n_range := PySem.W.mg_none_of X G z5
  have n_str := PySem.W.mg_none_of X G z6
  have n_isinstance := PySem.W.mg_none_of X G z7
  have n_all := PySem.W.mg_none_of X G z8
  have n_repr := PySem.W.mg_none_of X G z9
  have n_tuple := PySem.W.mg_none_of X G z10
  have n_list := PySem.W.mg_none_of X G z11
  have n_set := PySem.W.mg_none_of X G z12
  have n_int := PySem.W.mg_none_of X G z13
  have n_bool := PySem.W.mg_none_of X G z14
  have n_enumerate := PySem.W.mg_none_of X G z15
  have T : HTxt K mg C := ⟨⟨pg, hd, po, sa⟩, nR, nP, nA, PySem.W.mg_of X G aC, _, _, ⟨rd, ga⟩, ⟨cl, ⟨_, rfl⟩⟩⟩
  obtain ⟨fdI, F_init⟩ : ∃ fdI, FunD K "__init__" "Hierarchy.__init__" (defArgs m_init) (defBody m_init) (defScope m_init) [.ref T0] [] h0 fdI :=
    ⟨_, ⟨_, _, .ref TD, _, _, _, _, _, _, _, rfl, lM0, cM0, .inr ⟨by simp, TD, _, [.ref T0], _, rfl, lT, rfl, .cons rfl .nil⟩, .inl rfl⟩, kM0⟩
  have b_init1 : Binds K fdI ["self", "classes"] [] := by
    obtain ⟨ds, r, b⟩ := F_init.binds1 (ps := ["self", "classes"]) 2 1 (by simp) rfl fun _ _ _ _ _ _ _ us its hu hi =>
      match us, its, hu, hi with | [_, _], [_], _, _ => ⟨_, rfl, rfl⟩
    cases r
    exact b
  obtain ⟨ds0, v_init0, b_init0⟩ := F_init.binds1 (ps := ["self", "classes"]) 1 0 (by simp) rfl fun _ _ _ _ _ _ _ us its hu hi =>
    match us, its, hu, hi with | [_], [_], _, _ => ⟨_, rfl, rfl⟩
  have M : Mk K C h0 := ⟨mk, m0, i0, kc⟩
  have T0e : SqT K (fun _ => none) T0 [] := .inr ⟨_, #[], _, lU, rfl, rfl, Nat.zero_le _, .nil⟩
  have F_has_class := fun_mk (st := m_has_class) lM1 cM1 kM1
  have b_has_class := F_has_class.binds (ps := ["self", "value"]) fun _ _ _ _ _ _ us hl =>
    match us, hl with | [_, _], _ => rfl
  have mt_has_class : Meth K C "has_class" h1 := ⟨m1, i1, kM1⟩
  refine ⟨PySem.W.fnOf "law" "law" (defArgs sLaw) (defBody sLaw) (defScope sLaw)
      .none kV16 dc16 pm16 an16 cd16 ct16, fun s v => ?_, fun base _ _ low => ?_⟩
  · exact .of_eq rfl
  · have GD0 : FnOk l.prog w K mg base CX0 1 _ _ ["_law_pot_here", "_law_many"] spDraw := ok_draw F__law_draw n_divmod
    have GN0 := ok_name (P := l.prog) (w := w) (base := base) (k := 0) F__law_name F__law_draw b__law_draw g__law_draw n_divmod n_range
    have GNs := ok_names (P := l.prog) (w := w) (base := base) (k := 0) F__law_names F__law_name b__law_name g__law_name GN0 n_range
    have GM := ok_mixed (P := l.prog) (w := w) (base := base) (k := 0) F__law_mixed F__law_draw b__law_draw g__law_draw n_divmod n_range n_len n_list
    have GK := ok_kinds (P := l.prog) (w := w) (base := base) (k := 0) F__law_kinds F__law_draw b__law_draw g__law_draw F__law_names b__law_names g__law_names F__law_mixed b__law_mixed g__law_mixed GD0 GNs GM n_tuple
    have GA := ok_are (P := l.prog) (w := w) (base := base) (k := 0) F_are_superclasses n_isinstance n_tuple n_str n_all n_len n_set
    have GIN := ok_isname (P := l.prog) (w := w) (base := base) (k := 0) F_is_name n_isinstance n_str n_len n_all q_LETTERS q_LONGEST_NAME
    have GPr := ok_prob (P := l.prog) (w := w) (base := base) (k := 0) F_row_problem F_is_name b_is_name g_is_name F_are_superclasses b_are_superclasses g_are_superclasses GIN GA n_isinstance n_tuple n_len
    have GAn := ok_anc (P := l.prog) (w := w) (mg := mg) (base := base) (k := 0) F_ancestors_of
    have GI := ok_init (P := l.prog) (w := w) (base := base) (k := 0) F_init T F_row_problem b_row_problem g_row_problem F_ancestors_of b_ancestors_of g_ancestors_of GPr GAn n_isinstance n_tuple n_list n_enumerate n_len
    have GH := ok_has (P := l.prog) (w := w) (base := base) (k := 0) F_has_class T n_isinstance n_str
    have GC := ok_count (P := l.prog) (w := w) (base := base) (k := 0) F_is_parameter_count n_isinstance n_int n_bool q_MAX_PARAMETERS
    have GPt := ok_point (P := l.prog) (w := w) (base := base) (k := 0) F_is_point T F_is_parameter_count b_is_parameter_count g_is_parameter_count mt_has_class b_has_class GC GH n_isinstance n_tuple n_len n_all
    have GO := ok_odd (P := l.prog) (w := w) (base := base) (k := 0) F__law_odd low F__law_draw b__law_draw g__law_draw GD0 n_tuple n_list n_len
    have GV := ok_value (P := l.prog) (w := w) (base := base) (k := 0) F__law_value low F__law_draw b__law_draw g__law_draw F__law_odd b__law_odd g__law_odd GD0 GO n_range n_tuple n_len
    have GDu := ok_due (P := l.prog) (w := w) (base := base) (k := 0) F__law_is_due n_isinstance n_tuple n_str n_len n_all
    have GR := ok_right (P := l.prog) (w := w) (base := base) (k := 0) F__law_right F__law_is_due b__law_is_due g__law_is_due F_is_point b_is_point g_is_point GDu GPt n_repr
    have GPo := ok_pot (P := l.prog) (w := w) (base := base) (k := 0) F__law_pot n_len n_max n_abs
    exact ok_law F_law low T M T0e b_init0 v_init0 b_init1 F__law_pot b__law_pot g__law_pot F__law_kinds b__law_kinds g__law_kinds F__law_value b__law_value g__law_value
      F__law_right b__law_right g__law_right GI GPo GK GV GR q_MAX_PARAMETERS n_range n_max n_min n_len n_all
end Lw
open PySem PySem.W PyProof.Rows
set_option maxHeartbeats 0 in
theorem PySem.Challenge.cw_fewestmethods_k21_points_judged_holds : PySem.Challenge.rw_fewestmethods_k21_points_judged.Holds := by
  w_on; o_law; k_head; (case hw => w_witness2)
  k_fill
  refine Kv.walk_ofG (l := PySem.Challenge.rw_fewestmethods_k21_points_judged) (n := 63) (k := 5) (x := "_law_script") (sp := fun w => Lw.spLaw _)
    rfl (by decide) rfl ⟨rfl, by decide, by decide⟩ (fun w h Y => PySem.W.kIn_of Y) ?F
    (fun _ _ a ns hl _ _ hS => ⟨a, ns, rfl, hS, hl, fun _ => rfl⟩)
  case F =>
    intro w mg fa h KX G hmg
    refine' Lw.all_mk KX G hmg
      ?a0 ?l0 ?c0 ?k0 ?a1 ?l1 ?c1 ?k1 ?a2 ?l2 ?c2 ?k2
      ?a3 ?l3 ?c3 ?k3 ?a4 ?l4 ?c4 ?k4 ?a5 ?l5 ?c5 ?k5
      ?a6 ?l6 ?c6 ?k6 ?a7 ?l7 ?c7 ?k7 ?a8 ?l8 ?c8 ?k8
      ?a9 ?l9 ?c9 ?k9 ?a10 ?l10 ?c10 ?k10 ?a11 ?l11 ?c11 ?k11
      ?a12 ?l12 ?c12 ?k12 ?a13 ?l13 ?c13 ?k13 ?a14 ?l14 ?c14 ?k14
      ?a15 ?l15 ?c15 ?k15 ?a16 ?l16 ?c16 ?k16 ?aC ?m0 ?i0 ?lM0
      ?cM0 ?kM0 ?m1 ?i1 ?lM1 ?cM1 ?kM1 ?lT ?lU ?pg ?hd ?po
      ?sa ?mk ?kc ?nR ?nP ?nA ?rd ?ga ?cl ?e0 ?e1 ?e2
      ?z0 ?z1 ?z2 ?z3 ?z4 ?z5 ?z6 ?z7 ?z8 ?z9 ?z10 ?z11
      ?z12 ?z13 ?z14 ?z15
    (case a0 => k_is); (case l0 => k_is); (case c0 => k_is); (case k0 => k_is)
    (case a1 => k_is); (case l1 => k_is); (case c1 => k_is); (case k1 => k_is)
    (case a2 => k_is); (case l2 => k_is); (case c2 => k_is); (case k2 => k_is)
    (case a3 => k_is); (case l3 => k_is); (case c3 => k_is); (case k3 => k_is)
    (case a4 => k_is); (case l4 => k_is); (case c4 => k_is); (case k4 => k_is)
    (case a5 => k_is); (case l5 => k_is); (case c5 => k_is); (case k5 => k_is)
    (case a6 => k_is); (case l6 => k_is); (case c6 => k_is); (case k6 => k_is)
    (case a7 => k_is); (case l7 => k_is); (case c7 => k_is); (case k7 => k_is)
    (case a8 => k_is); (case l8 => k_is); (case c8 => k_is); (case k8 => k_is)
    (case a9 => k_is); (case l9 => k_is); (case c9 => k_is); (case k9 => k_is)
    (case a10 => k_is); (case l10 => k_is); (case c10 => k_is); (case k10 => k_is)
    (case a11 => k_is); (case l11 => k_is); (case c11 => k_is); (case k11 => k_is)
    (case a12 => k_is); (case l12 => k_is); (case c12 => k_is); (case k12 => k_is)
    (case a13 => k_is); (case l13 => k_is); (case c13 => k_is); (case k13 => k_is)
    (case a14 => k_is); (case l14 => k_is); (case c14 => k_is); (case k14 => k_is)
    (case a15 => k_is); (case l15 => k_is); (case c15 => k_is); (case k15 => k_is)
    (case a16 => k_is); (case l16 => k_is); (case c16 => k_is); (case k16 => k_is)
    (case aC => k_is); (case m0 => k_is); (case i0 => k_is); (case lM0 => k_is)
    (case cM0 => k_is); (case kM0 => k_is); (case m1 => k_is); (case i1 => k_is)
    (case lM1 => k_is); (case cM1 => k_is); (case kM1 => k_is); (case lT => k_is)
    (case lU => k_is); (case pg => k_is); (case hd => k_is); (case po => k_is)
    (case sa => k_is); (case mk => k_is); (case kc => k_is); (case nR => k_is)
    (case nP => k_is); (case nA => k_is); (case rd => k_is); (case ga => k_is)
    (case cl => k_is); (case e0 => k_is); (case e1 => k_is); (case e2 => k_is)
    (case z0 => k_is); (case z1 => k_is); (case z2 => k_is); (case z3 => k_is)
    (case z4 => k_is); (case z5 => k_is); (case z6 => k_is); (case z7 => k_is)
    (case z8 => k_is); (case z9 => k_is); (case z10 => k_is); (case z11 => k_is)
    (case z12 => k_is); (case z13 => k_is); (case z14 => k_is); (case z15 => k_is)
