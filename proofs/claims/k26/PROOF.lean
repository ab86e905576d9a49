import PyProof.Rows.All
import Wide.All
import OpenK.AllK
import Wide.FinOn
import HandS.ForMost
import HandS.IsInst
import HandS.WideBits
import PyProof.ReprRoads
import HandS.EndBits
import HandS.Walk
import PyProof.ReprLen
import HandS.Strs
import KE.GoesMore
import HandS.ClsMeth
import HandS.Defaults
import HandS.Conv
import HandS.Zip
import HandS.TupAny
import HandS.Star
import HandS.Style
import PySem.Challenge.RW_fewestmethods_k26_all_points
set_option Elab.async false
set_option linter.all false
set_option maxRecDepth 100000
set_option maxHeartbeats 4000000
/-! Defs that show values with repr: the promise of a def that is called while no repr is under way. -/
namespace Kv
open PySem PySem.Spec PyProof.Rows L2
/-- as FnOk, for calls with no repr under way -/
structure FnG (P : Program) (w : World) (K : PySem.W.Frag) (mg : Str → Option Value)
    (base : Heap) (CX : CXT) (k : Nat) (f : Addr) (fd : FuncData) (ps : List Str) (sp : Sp) : Prop where
  many : ∀ vs H Q E, sp vs H Q E → vs.length = ps.length
  goes : ∀ (A : Around) (fr : List Env) (s : Shared) (H : Hp) (ar : Args)
    (us : List Value) (vs : List V) (Q : VK) (E : XK), A.guards = some [] → Room k A →
    Env0 P w K mg base A fr s H → BindsTo s fd ar (ps.zip us) → Vals vs us → sp vs H Q E →
    codeAny (model P w) A (.call (.ref f) ar) (CR CX fr P w H s Q E) s
theorem FnG.of {P : Program} {w : World} {K : PySem.W.Frag} {mg : Str → Option Value}
    {base : Heap} {CX : CXT} {k : Nat} {f : Addr} {fd : FuncData} {ps : List Str} {sp : Sp}
    (F : FnOk P w K mg base CX k f fd ps sp) : FnG P w K mg base CX k f fd ps sp :=
  ⟨F.len, fun A fr s H ar us vs Q E _ => F.run A fr s H ar us vs Q E⟩
section
variable {P : Program} {w : World} {K : PySem.W.Frag} {mg : Str → Option Value} {base : Heap}
/-- a def's promise by its body, where no repr is under way at the call -/
theorem okG {x qual : Str} {st : Stmt} {f : Addr} {fd : FuncData} {N ps : List Str} {k : Nat} {sp : Sp}
    (F : Fun K x qual st f fd) (S : FnScope N ps (defScope st))
    (many : ∀ vs H Q E, sp vs H Q E → vs.length = ps.length)
    (hb : ∀ (cdv : Value) (A : Around) (fr : List Env) (s : Shared) (H : Hp) (vs : List V) (Q : VK) (E : XK),
      A.guards = some [] →
      Room k (A.deeper (envOfC qual (defScope st) s.heap.objs.size f cdv)) → sp vs H Q E →
      ∃ t, PSs (cxOf CX0 P w K mg base N qual (defScope st) f cdv A fr s H E).nox (defBody st) t ∧
        t { nx := fun _ H' => Q .non H', rt := Q } (start N vs) H) :
    FnG P w K mg base CX0 (k + 1) f fd ps sp := by
  obtain ⟨oc, od, kV, doc, pm, an, cdv, ct, osl, rfl, lk, hcd⟩ := F.ex
  refine ⟨many, ?_⟩
  intro A fr s H ar us vs Q E hg hr e0 hbd rv hsp
  have kin : K.In s.heap :=
    e0.mod.kin.keeps fun b o e => (e0.bs b o e).1
  have nol : s.heap.NoLimit :=
    e0.mod.nolimit.keeps fun b o e => (e0.bs b o e).1
  refine codeAny_call_function hr.depth (kin _ _ lk) rfl S.co S.gen rfl
    (PySem.W.codeRec_of kin hcd) (hbd _ _ _ _ ?_)
  refine wpAny_newFunctionEnv_cells S.kind (fun y hy => ?_) fun env he s1 ic => ?_
  · obtain ⟨n, v⟩ := y
    rcases S.par n (List.of_mem_zip hy).1 with q | q
    · exact Or.inl q
    · exact Or.inr ⟨q, PySem.W.cellsFrom_some _ _ _ (Or.inl q)⟩
  · subst he
    refine ⟨nol.keeps ic.toInCall.keep, codeAny_func ?_⟩
    obtain ⟨t, ht, hq⟩ := hb cdv A fr s H vs Q E hg (hr.deeper _) hsp
    have I : Inv (cxOf CX0 P w K mg base N qual (defScope st) f cdv A fr s H E) [] (start N vs) H s1 :=
      inv_start S hr.hd e0 (many _ _ _ _ hsp) rv ic
    refine wpAny_mono (ht.nox.run [] s1 (start N vs) H _ I hq) (fun fl s2 hs => ?_) (fun e s2 hs => hs)
    cases fl with
    | brk => exact hs.elim fun _ h => h.elim fun _ h => h.2.elim
    | cont => exact hs.elim fun _ h => h.elim fun _ h => h.2.elim
    | ret u =>
      obtain ⟨v, σ2, H2, J, r2, q2⟩ := hs
      exact ⟨v, H2, J.os, J.bare, J.base, J.hok, r2, q2⟩
    | next =>
      obtain ⟨σ2, H2, J, q2⟩ := hs
      exact ⟨V.non, H2, J.os, J.bare, J.base, J.hok, rfl, q2⟩
end
section
variable {X : Cx} {CX : CXT} {k : Nat} {f : Addr} {fd : FuncData} {ps : List Str} {sp : Sp}
  {dvs : List V} {ds : List Value} {E : XK} {x : Str} {p pos : Pos} {e : Expr} {es : List Expr} {t : TA}
theorem runG {pins : List (Addr × Obj)} {σ : L2.St} {H : Hp} {s : Shared} {Q : VK} {us : List Value} {vs : List V}
    (F : FnG X.prog X.w X.K X.mg X.base CX k f fd ps sp) (hgd : X.A.guards = some []) (hr : Room k X.A)
    (hb : Binds X.K fd ps ds) (hd : Vals dvs ds) (hx : Passes CX X E)
    (I : Inv X pins σ H s) (r : Vals vs us) (h : sp (vs ++ dvs) H Q E) :
    wpAny (model X.prog X.w) X.A (call (.ref f) us) (EP X pins σ Q) X.xe s := by
  have rr : Vals (vs ++ dvs) (us ++ ds) := r.append hd
  have hl : (us ++ ds).length = ps.length := by
    rw [← rr.length]
    exact F.many _ _ _ _ h
  refine wpAny_call (codeAny_mono (F.goes X.A X.stack s H ⟨us, []⟩ (us ++ ds) (vs ++ dvs) Q E
    hgd hr I.env0 (hb s us I.kIn hl) rr h) fun z s2 hq => ?_)
  cases z with
  | error e => exact hx pins σ H s e s2 I hq
  | ok fl =>
    cases fl with
    | ret u => exact I.after hq
    | next => exact hq.elim
    | brk => exact hq.elim
    | cont => exact hq.elim
/-- f(e, ..) of such a def -/
theorem pe_callG (F : FnG X.prog X.w X.K X.mg X.base CX k f fd ps sp) (hgd : X.A.guards = some [])
    (hr : Room k X.A) (hg : Gl X x) (hm : X.mg x = some (.ref f)) (hk : PySem.W.keepIn X.K (.ref f) = true)
    (hb : Binds X.K fd ps ds) (hd : Vals dvs ds) (hx : Passes CX X E) (ha : PA X (e :: es) t)
    (hdb : (x == ("__debug__" : Str)) = false := by decide)
    (he : starEach (e :: es) X.env = (false, eval e X.env) :: starEach es X.env := by rfl)
    (hpl : (backTo pos (starEach es X.env)).any (·.1) = false := by rfl) :
    PE X (.Call (.Name x p) (e :: es) [] pos) (tCall sp dvs E t) := by
  constructor
  intro pins s σ H Q I h
  refine wpAny_Call_Name_kw (ld_glob I hg hm ?_ hdb)
  refine PySem.W.callWith_K (h₀ := X.base) I.ok.mod.kin hk (thn (ha.run pos pins s σ H _ I h)
    fun us s1 ⟨vs, H1, I1, r, q⟩ => ⟨I1.kIn, ?_⟩) he hpl
  exact runG F hgd hr hb hd hx I1 r q
end
/-! ### what repr shows -/
mutual
/-- the value v is the datum d. nd: no dict is in it -/
inductive Sh (K : PySem.W.Frag) (nd : Bool) (H : Hp) : V → PyData → Prop
  | non : Sh K nd H .non .none
  | bl (b : Bool) : Sh K nd H (.bl b) (.bool b)
  | int (i : Int) : Sh K nd H (.int i) (.int i)
  | str (x : Str) : Sh K nd H (.str x) (.str x)
  | lst {a : Addr} {xs : List V} {ds : List PyData} : SqL K H a xs → (nd = false → a ≠ sysModules) →
      ShAll K nd H xs ds → Sh K nd H (.ref a) (.list ds)
  | tup {a : Addr} {xs : List V} {ds : List PyData} : SqT K H a xs →
      ShAll K nd H xs ds → Sh K nd H (.ref a) (.tuple ds)
  | dict {a : Addr} {kvs : List (Key × V)} {ks vs : List PyData} : nd = false → H a = some (.dK kvs) →
      ShAll K nd H (kvs.map fun p => kV p.1) ks → ShAll K nd H (kvs.map fun p => p.2) vs →
      Sh K nd H (.ref a) (.dict (ks.zip vs))
inductive ShAll (K : PySem.W.Frag) (nd : Bool) (H : Hp) : List V → List PyData → Prop
  | nil : ShAll K nd H [] []
  | cons {v : V} {vs : List V} {d : PyData} {ds : List PyData} : Sh K nd H v d →
      ShAll K nd H vs ds → ShAll K nd H (v :: vs) (d :: ds)
end
theorem ShAll.length {K : PySem.W.Frag} {nd : Bool} {H : Hp} : ∀ {vs : List V} {ds : List PyData}, ShAll K nd H vs ds → vs.length = ds.length
  | _, _, .nil => rfl
  | _, _, .cons _ t => by rw [List.length_cons, List.length_cons, t.length]
theorem pairs_vals {P : Program} {w : World} : ∀ {es : List DictEntry} {kvs : List (Key × V)} {vs : List (Key × Value)},
    KV kvs vs → Pairs (mixKind P w) es vs →
    Vals (kvs.map fun p => kV p.1) (es.map (·.key)) ∧ Vals (kvs.map fun p => p.2) (es.map (·.val))
  | _, _, _, .nil, .nil => ⟨.nil, .nil⟩
  | _, _, _, .cons ⟨e1, r1⟩ t, .cons h1 h2 ht => by
    obtain ⟨q1, q2⟩ := pairs_vals t ht
    refine ⟨.cons ?_ q1, .cons (by show RelV _ (DictEntry.val _); rw [h2]; exact r1) q2⟩
    have h1' : keyIs _ _ = true := h1
    rw [← e1] at h1'
    show RelV (kV (Prod.fst _)) (DictEntry.key _)
    rcases keyIs_shape h1' with ⟨i, t, e, e2⟩ | ⟨x, t, e, e2⟩
    · rw [e, e2]
      exact ⟨t, rfl⟩
    · rw [e, e2]
      exact ⟨t, rfl⟩
theorem zip_fst : ∀ {α β : Type} (xs : List α) (ys : List β), xs.length = ys.length → (xs.zip ys).map (·.1) = xs
  | _, _, [], _, _ => rfl
  | _, _, x :: xs, y :: ys, h => by
    show x :: (xs.zip ys).map (·.1) = x :: xs
    rw [zip_fst xs ys (Nat.succ.inj h)]
theorem zip_snd : ∀ {α β : Type} (xs : List α) (ys : List β), xs.length = ys.length → (xs.zip ys).map (·.2) = ys
  | _, _, [], [], _ => rfl
  | _, _, x :: xs, y :: ys, h => by
    show y :: (xs.zip ys).map (·.2) = y :: ys
    rw [zip_snd xs ys (Nat.succ.inj h)]
section
variable {X : Cx} {pins : List (Addr × Obj)} {σ : L2.St} {H : Hp} {s : Shared} {nd : Bool}
mutual
theorem Sh.reads (I : Inv X pins σ H s) : ∀ {v : V} {d : PyData} {u : Value}, Sh X.K nd H v d → RelV v u →
    ∃ as, Reads s.heap u d as ∧ (nd = false → sysModules ∉ as) ∧ (nd = true → d.hasDict = false)
  | _, _, _, .non, r => by
    cases r
    exact ⟨_, Reads.none, fun _ h => (nomatch h), fun _ => by simp [PyData.hasDict]⟩
  | _, _, _, .bl b, r => by
    cases r
    exact ⟨_, Reads.bool b, fun _ h => (nomatch h), fun _ => by simp [PyData.hasDict]⟩
  | _, _, _, .int i, r => by
    obtain ⟨t, rfl⟩ := r
    exact ⟨_, Reads.int i t, fun _ h => (nomatch h), fun _ => by simp [PyData.hasDict]⟩
  | _, _, _, .str x, r => by
    obtain ⟨t, rfl⟩ := r
    exact ⟨_, Reads.str x t, fun _ h => (nomatch h), fun _ => by simp [PyData.hasDict]⟩
  | _, _, _, .lst hs hne ha, r => by
    cases r
    obtain ⟨its, rv, ⟨o, n, ho, hc, _, hd⟩, _⟩ := I.list hs
    obtain ⟨as, h1, h2, h3⟩ := ShAll.reads I ha rv
    refine ⟨_, Reads.list ho hc hd h1, fun e hm => ?_, fun e => by simp only [PyData.hasDict]; exact h3 e⟩
    rcases List.mem_cons.mp hm with z | z
    · exact hne e z.symm
    · exact h2 e z
  | _, _, _, .tup hs ha, r => by
    cases r
    obtain ⟨its, rv, ⟨o, ho, hc, n, hd⟩, _⟩ := I.tuple hs
    obtain ⟨as, h1, h2, h3⟩ := ShAll.reads I ha rv
    exact ⟨_, Reads.tuple ho hc hd h1, h2, fun e => by simp only [PyData.hasDict]; exact h3 e⟩
  | _, _, _, .dict (a := a) (kvs := kvs) (ks := ks) (vs := ds) e0 hs hk hv, r => by
    cases r
    have l1 := hk.length
    have l2 := hv.length
    rw [List.length_map] at l1 l2
    have l3 : ks.length = ds.length := l1.symm.trans l2
    obtain ⟨_, hne, vs, kv, o, es, ep, g1, g2, g3, _, g5, _⟩ :=
      (show ObjOk X.prog X.w H s.heap a (.dK kvs) from I.hok a _ hs)
    obtain ⟨v1, v2⟩ := pairs_vals kv g5
    obtain ⟨as, h1, h2, _⟩ := ShAll.reads I hk v1
    obtain ⟨bs, k1, k2, _⟩ := ShAll.reads I hv v2
    refine ⟨_, Reads.dict (kvs := ks.zip ds) g1 g2.1 g3 (by rw [zip_fst ks ds l3]; exact h1)
      (by rw [zip_snd ks ds l3]; exact k1), fun e hm => ?_, fun e => by rw [e0] at e; cases e⟩
    rcases List.mem_append.mp hm with z | z
    · rcases List.mem_cons.mp z with y | y
      · rw [← y] at hne
        simp at hne
      · exact h2 e y
    · exact k2 e z
theorem ShAll.reads (I : Inv X pins σ H s) : ∀ {vs : List V} {ds : List PyData} {us : List Value},
    ShAll X.K nd H vs ds → Vals vs us →
    ∃ as, ReadsAll s.heap us ds as ∧ (nd = false → sysModules ∉ as) ∧ (nd = true → PyData.hasDictAll ds = false)
  | _, _, _, .nil, r => by
    cases r
    exact ⟨_, ReadsAll.nil, fun _ h => (nomatch h), fun _ => by simp [PyData.hasDictAll]⟩
  | _, _, _, .cons h1 h2, .cons r1 r2 => by
    obtain ⟨as, q1, q2, q3⟩ := Sh.reads I h1 r1
    obtain ⟨bs, k1, k2, k3⟩ := ShAll.reads I h2 r2
    refine ⟨_, ReadsAll.cons q1 k1, fun e hm => ?_, fun e => by simp only [PyData.hasDictAll, q3 e, k3 e, Bool.or_self]⟩
    rcases List.mem_append.mp hm with z | z
    · exact q2 e z
    · exact k2 e z
end
/-- repr of a datum -/
def rRepr (K : PySem.W.Frag) : List V → Hp → VK → Prop := fun xs H Q => ∃ (nd : Bool) (x : V) (d : PyData), xs = [x] ∧
  Sh K nd H x d ∧ d.showable = true ∧ d.shown.length ≤ sizeLine ∧ d.depth ≤ 60 ∧ Q (.str d.shown) H
theorem call_reprD (hg : X.A.guards = some []) (hu : X.A.units + 64 < cLine) : CallR X (.builtin "repr") (rRepr X.K) := by
  intro pins s σ H xs us Q I r h
  obtain ⟨nd, x, d, rfl, sh, hs, hz, hd, q⟩ := h
  obtain ⟨u, rfl, ru⟩ : ∃ u, us = [u] ∧ RelV x u := by
    cases r with
    | cons r1 r2 =>
      cases r2
      exact ⟨_, rfl, r1⟩
  obtain ⟨as, rd, n1, n2⟩ := sh.reads I ru
  cases sh with
  | non =>
    cases ru
    exact PySem.P.repr_of_none ⟨.str "None", H, I.tok _, ⟨_, rfl⟩, by simpa [PyData.shown] using q⟩
  | bl b =>
    cases ru
    exact PySem.P.repr_of_bool ⟨.str (if b then "True" else "False"), H, I.tok _, ⟨_, rfl⟩, by simpa [PyData.shown] using q⟩
  | int i =>
    obtain ⟨t, rfl⟩ := ru
    exact PySem.P.repr_of_int (by simpa [PyData.showable] using hs) ⟨.str (toString i), H, I.tok _, ⟨_, rfl⟩, by simpa [PyData.shown] using q⟩
  | str z =>
    obtain ⟨t, rfl⟩ := ru
    exact PySem.P.repr_of_str ⟨.str (reprText z), H, I.tok _, ⟨_, rfl⟩, by simpa [PyData.shown] using q⟩ (by simpa [PyData.shown] using hz)
  | lst h1 h2 h3 =>
    cases ru
    exact repr_of_reads' rd hs (fun e => by cases nd with
      | false => exact n1 rfl
      | true => rw [n2 rfl] at e; cases e) hg (by omega) (fun _ _ e => e) (fun h2 u tk hk => ⟨.str _, H, I.kept hk, ⟨_, rfl⟩, q⟩) hz
  | tup h1 h2 =>
    cases ru
    exact repr_of_reads' rd hs (fun e => by cases nd with
      | false => exact n1 rfl
      | true => rw [n2 rfl] at e; cases e) hg (by omega) (fun _ _ e => e) (fun h2 u tk hk => ⟨.str _, H, I.kept hk, ⟨_, rfl⟩, q⟩) hz
  | dict h1 h2 h3 h4 =>
    cases ru
    exact repr_of_reads' rd hs (fun e => by cases nd with
      | false => exact n1 rfl
      | true => rw [n2 rfl] at e; cases e) hg (by omega) (fun _ _ e => e) (fun h2 u tk hk => ⟨.str _, H, I.kept hk, ⟨_, rfl⟩, q⟩) hz
end
end Kv
/-! The end of a law whose def shows values with repr. -/
namespace Kv
open PySem PySem.Spec PyProof.Rows L2
section
variable {P : Program} {w : World} {K : PySem.W.Frag} {mg mb : Str → Option Value} {CX : CXT} {k : Nat}
  {fa a : Addr} {fd : FuncData} {x : Str} {sp : Sp} {s1 : Shared} {vs : List Value} {ns : List Int}
/-- the list object of the script -/
abbrev scr (vs : List Value) : Obj := { cls := .type "list", data := .seq vs.toArray }
abbrev Done (s1 : Shared) (r : Result) (s2 : Shared) : Prop :=
  r = .ok (.ret (.bool true)) ∧ OldK s1.heap s2.heap ∧ s2.os = s1.os ∧ AllBare s2.gens
/-- from a heap in which at most the script is tracked -/
theorem law_from (H : Hp) (KX : K.In s1.heap) (hns : s1.heap.Ns mainGlobals mg) (hb : s1.heap.Ns builtinsNs mb)
    (hbb : ∀ y : Str, y ≠ "__name__" → mb y = bootBuiltins y) (hlim : s1.heap.NoLimit) (hg : s1.gens = #[])
    (ha : s1.heap.get? a = some (scr vs)) (hr : Room k callerA) (low : sysModules < s1.heap.objs.size)
    (F : ∀ base : Heap, K.In base → base.Ns mainGlobals mg → sysModules < base.objs.size →
      FnG P w K mg base CX k fa fd [x] sp)
    (bind : ∀ (s : Shared) (u : Value), BindsTo s fd ⟨[u], []⟩ [(x, u)])
    (hsp : sp [.ref a] H (fun v _ => v = .bl true) fun _ _ _ => False)
    (hCX : ∀ e s2, CX [] H s1 (fun _ _ _ => False) e s2 → False)
    (hO : Only H) (hok : HOk P w H s1.heap) (hA : ∀ b u, H b = some u → b = a)
    (hK : ∀ u, H a = some u → K.lookup a = none) :
    codeAny (model P w) callerA (.call (.ref fa) ⟨[.ref a], []⟩) (Done s1) s1 := by
  have nodict : ∀ {b : Addr} {o : Obj} {es : Array DictEntry} {ep : Nat},
      s1.heap.get? b = some o → o.data = .dict es ep → H b = none := by
    intro b o es ep e d
    cases q : H b with
    | none => rfl
    | some u =>
      rw [hA b u q, ha] at e
      cases e
      exact nomatch (show Data.seq vs.toArray _ = Data.dict es ep from d)
  have ns2 : ∀ {b : Addr} {m : Str → Option Value}, s1.heap.Ns b m → (hidT s1.heap H).Ns b m := by
    intro b m h
    obtain ⟨o, es, ep, e, d, r⟩ := h
    exact ⟨o, es, ep, hidT_get e (nodict e d), d, r⟩
  have kin : K.In (hidT s1.heap H) := by
    intro b o e
    refine hidT_get (KX b o e) ?_
    cases q : H b with
    | none => rfl
    | some u =>
      have z := hA b u q
      subst z
      rw [hK u q] at e
      cases e
  have md : Mod K mg (hidT s1.heap H) := by
    obtain ⟨mc, l1, l2⟩ := hlim
    exact ⟨kin, ns2 hns, ⟨mb, ns2 hb, hbb⟩, ⟨mc, ns2 l1, l2⟩⟩
  have e0 : Env0 P w K mg (hidT s1.heap H) callerA [] s1 H := by
    refine ⟨rfl, md, fun b o e => of_hidT e, Nat.le_of_eq (hidT_size _ _), trivial, ?_, hok, .of_eq hg⟩
    intro b z
    exact nomatch (show b ∈ ([] : List Addr) from z)
  have low2 : sysModules < (hidT s1.heap H).objs.size := by
    rw [hidT_size]
    exact low
  refine codeAny_mono ((F _ kin (ns2 hns) low2).goes callerA [] s1 H ⟨[.ref a], []⟩ [.ref a] [.ref a] _ _
    rfl hr e0 (bind s1 (.ref a)) (.cons rfl .nil) hsp) fun r s2 h => ?_
  cases r with
  | error e => exact (hCX e s2 h).elim
  | ok fl =>
    cases fl with
    | next => exact h.elim
    | brk => exact h.elim
    | cont => exact h.elim
    | ret u =>
      obtain ⟨v, H2, os, bare, un, hok2, r2, q2⟩ := h
      have q3 : v = .bl true := q2
      subst q3
      obtain rfl : u = Value.bool true := r2
      refine ⟨rfl, OldK.of_keep fun b o e => ?_, os, bare⟩
      rcases hO b with z | ⟨ob, xs, z⟩
      · exact un.keep b o e z (fun y => nomatch (show b ∈ ([] : List Addr) from y)) (by simp)
      · obtain ⟨e1, _⟩ := hok b _ z
        obtain ⟨e2, _⟩ := hok2 b _ (un.frzs b ob _ z)
        rw [e] at e1
        cases e1
        exact e2
/-- the script tracked, unless it is one of the module's own objects -/
theorem law_callG (KX : K.In s1.heap) (hns : s1.heap.Ns mainGlobals mg) (hb : s1.heap.Ns builtinsNs mb)
    (hbb : ∀ y : Str, y ≠ "__name__" → mb y = bootBuiltins y) (hlim : s1.heap.NoLimit) (hg : s1.gens = #[])
    (ha : s1.heap.get? a = some (scr vs)) (hi : IntsAre vs ns) (hl : ns.length ≤ sizeLine)
    (hr : Room k callerA) (low : sysModules < s1.heap.objs.size)
    (F : ∀ base : Heap, K.In base → base.Ns mainGlobals mg → sysModules < base.objs.size →
      FnG P w K mg base CX k fa fd [x] sp)
    (bind : ∀ (s : Shared) (u : Value), BindsTo s fd ⟨[u], []⟩ [(x, u)])
    (hsp : ∀ H : Hp, Only H → SqL K H a (ns.map V.int) →
      sp [.ref a] H (fun v _ => v = .bl true) fun _ _ _ => False)
    (hCX : ∀ H e s2, CX [] H s1 (fun _ _ _ => False) e s2 → False) :
    codeAny (model P w) callerA (.call (.ref fa) ⟨[.ref a], []⟩) (Done s1) s1 := by
  have rv : Vals (ns.map V.int) vs := vals_ints hi
  have len : vs.length = ns.length := by
    have := rv.length
    rw [List.length_map] at this
    exact this.symm
  cases hk : K.lookup a with
  | some o =>
    have e := KX a o hk
    rw [ha] at e
    cases e
    have sq : SqL K (fun _ => none) a (ns.map V.int) := by
      refine Or.inr ⟨_, vs.toArray, _, hk, rfl, rfl, rfl, ?_, by simpa using rv⟩
      rw [List.size_toArray, len]
      exact hl
    have on : Only fun _ => none := fun _ => Or.inl rfl
    refine law_from (fun _ => none) KX hns hb hbb hlim hg ha hr low F bind (hsp _ on sq) (hCX _) on ?_ ?_ ?_
    · intro b u z
      exact nomatch z
    · intro b u z
      exact nomatch z
    · intro u z
      exact nomatch z
  | none =>
    let H : Hp := fun b => if b = a then some (.frz (scr vs) (.lst (ns.map V.int))) else none
    have at1 : H a = some (.frz (scr vs) (.lst (ns.map V.int))) := if_pos rfl
    have out : ∀ b u, H b = some u → b = a ∧ u = .frz (scr vs) (.lst (ns.map V.int)) := by
      intro b u z
      by_cases hb : b = a
      · subst hb
        rw [at1] at z
        exact ⟨rfl, (Option.some.inj z).symm⟩
      · have z2 : (none : Option HO) = some u := (if_neg hb).symm.trans z
        cases z2
    have on : Only H := by
      intro b
      by_cases hb : b = a
      · exact Or.inr ⟨_, _, by rw [hb]; exact at1⟩
      · exact Or.inl (if_neg hb)
    refine law_from H KX hns hb hbb hlim hg ha hr low F bind (hsp _ on (Or.inl (Or.inr ⟨_, at1⟩))) (hCX _) on ?_
      (fun b u z => (out b u z).1) fun _ _ => hk
    intro b u z
    obtain ⟨rfl, rfl⟩ := out b u z
    refine ⟨ha, ?_, vs, _, rv, ha⟩
    rw [List.length_map]
    exact hl
end
/-- the goal that k_head leaves, from the law's promise -/
theorem walk_ofG {l : PySem.W.OpenLaw} {n k : Nat} {q : Program} {loose : List Str}
    {XP : (Str → Option Value) → Heap → Prop} {YP : World → Heap → Prop} {d : DefRec} {K : Params → PySem.W.Frag}
    {sp : World → Sp} {x : Str}
    (hn : l.most = some n) (hn2 : n ≤ sizeLine) (hdf : d.params.defaults = []) (hr : Room k callerA)
    (hY : ∀ (w : World) (h : Heap), YP w h → (K w.params).In h)
    (F : ∀ (w : World) (mg : Str → Option Value) (fa : Addr) (h : Heap), (K w.params).In h →
      h.Ns mainGlobals mg → mg d.name = some (.ref fa) →
      ∃ fd : FuncData, (∀ (s : Shared) (u : Value), BindsTo s fd ⟨[u], []⟩ [(x, u)]) ∧
        ∀ base : Heap, (K w.params).In base → base.Ns mainGlobals mg → sysModules < base.objs.size →
          FnG l.prog w (K w.params) mg base CX0 k fa fd [x] (sp w))
    (hsp : ∀ (w : World) (H : Hp) (a : Addr) (ns : List Int), ns.length ≤ n →
      (∀ z ∈ ns, Builtin.Int.intBits z ≤ 1048576) → Only H → SqL (K w.params) H a (ns.map V.int) →
      sp w [.ref a] H (fun v _ => v = .bl true) fun _ _ _ => False) :
    PySem.W.WalkO q loose XP YP l.row.toRowW d [] (fun f vs => PySem.call f vs) := by
  refine Att.attach_callB hn hdf ?_
  intro w s0 s1 mg mb fa o pm cd doc a vs ns G Y ho hd hcd hmg hobj hints hlen hbits hgens
  have KX := hY w _ Y
  obtain ⟨fd, hb, hF⟩ := F w mg fa _ KX G.T.g hmg
  exact law_callG KX G.T.g G.T.b G.T.builtins G.T.nolimit hgens hobj hints (Nat.le_trans hlen hn2) hr G.low hF hb
    (fun H hO hS => hsp w H a ns hlen hbits hO hS) fun H e s2 z => z
end Kv
/-! Texts of few plain signs; what isinstance says of a datum. -/
namespace Kv
open PySem PySem.Spec PyProof.Rows L2
/-- at most n signs, all below 128 -/
def Sm (n : Nat) (x : Str) : Prop := x.length ≤ n ∧ ∀ c ∈ x.cps.toList, c < 128
theorem len_list (x : Str) : x.length = x.cps.toList.length := by
  show x.cps.size = _
  rw [Array.length_toList]
theorem Sm.mono {n m : Nat} {x : Str} (h : Sm n x) (hn : n ≤ m) : Sm m x := ⟨Nat.le_trans h.1 hn, h.2⟩
theorem Sm.app {n m : Nat} {x y : Str} (h : Sm n x) (k : Sm m y) : Sm (n + m) (x ++ y) := by
  have e : (x ++ y).cps.toList = x.cps.toList ++ y.cps.toList := TL.tl_append x y
  refine ⟨?_, fun c hc => ?_⟩
  · rw [len_list, e, List.length_append, ← len_list, ← len_list]
    exact Nat.add_le_add h.1 k.1
  · rw [e] at hc
    rcases List.mem_append.mp hc with z | z
    · exact h.2 c z
    · exact k.2 c z
theorem Sm.cut {n : Nat} {x : Str} (h : Sm n x) (lo hi : Option Int) : Sm n (cutS x lo hi) := by
  have e : (cutS x lo hi).cps.toList = (x.cps.toList.drop (HT.sIx x.length 0 lo)).take (HT.sIx x.length x.length hi - HT.sIx x.length 0 lo) := by
    unfold cutS
    rfl
  refine ⟨?_, fun c hc => ?_⟩
  · rw [len_list, e]
    rw [List.length_take, List.length_drop, ← len_list]
    have := h.1
    omega
  · rw [e] at hc
    exact h.2 c (List.mem_of_mem_drop (List.mem_of_mem_take hc))
theorem Sm.upper {n : Nat} {x : Str} (h : Sm n x) : Sm n (Txt.upper x) := by
  rw [upper_ascii h.2]
  refine ⟨?_, fun c hc => ?_⟩
  · show (x.cps.map up1).size ≤ n
    rw [Array.size_map]
    exact h.1
  · have hc2 : c ∈ (x.cps.map up1).toList := hc
    rw [Array.toList_map] at hc2
    obtain ⟨d, hd, rfl⟩ := List.mem_map.mp hc2
    have := h.2 d hd
    unfold up1
    split <;> omega
theorem joinL_nil : ∀ ps : List (List Nat), TL.joinL [] ps = ps.flatten
  | [] => rfl
  | [p] => by simp [TL.joinL]
  | p :: q :: r => by
    show p ++ ([] ++ TL.joinL [] (q :: r)) = _
    rw [joinL_nil (q :: r)]
    simp
/-- texts of one plain sign each, joined by nothing -/
theorem Sm.join : ∀ {ys : List Str}, (∀ y ∈ ys, Sm 1 y) → Sm ys.length (Txt.join "" ys) := by
  intro ys hy
  have e : (Txt.join "" ys).cps.toList = (ys.map TL.tl).flatten := by
    rw [TL.join_eq]
    show TL.tl (Str.join _ _) = _
    rw [TL.tl_join]
    exact joinL_nil _
  refine ⟨?_, fun c hc => ?_⟩
  · rw [len_list, e]
    clear e
    induction ys with
    | nil => exact Nat.le_refl _
    | cons y r ih =>
      have h1 := (hy y (List.mem_cons_self ..)).1
      have h2 := ih fun z hz => hy z (List.mem_cons_of_mem _ hz)
      rw [len_list] at h1
      simp only [List.map_cons, List.flatten_cons, List.length_append, List.length_cons]
      have h3 : (TL.tl y).length ≤ 1 := h1
      omega
  · rw [e] at hc
    obtain ⟨l, hl, hcl⟩ := List.mem_flatten.mp hc
    obtain ⟨y, hm, rfl⟩ := List.mem_map.mp hl
    exact (hy y hm).2 c hcl
theorem Sm.shown {n : Nat} {x : Str} (h : Sm n x) : (reprText x).length ≤ 10 * n + 2 := by
  have := PySem.StrLaws.reprText_len x fun c hc => Nat.lt_trans (h.2 c hc) (by decide)
  have := h.1
  omega
theorem sz1 : ∀ {n : Nat}, n ≤ 1000 → n < sizeLine := fun h => small1000 h
theorem szle {n : Nat} (h : n ≤ 10000) : n ≤ sizeLine := Nat.le_trans h (by decide)
theorem Sm.le {n : Nat} {x : Str} (h : Sm n x) (hn : n ≤ 10000 := by decide) : x.length ≤ sizeLine := szle (Nat.le_trans h.1 hn)
theorem Sm.le2 {n m : Nat} {x y : Str} (h : Sm n x) (k : Sm m y) (hn : n + m ≤ 10000 := by decide) : x.length + y.length ≤ sizeLine :=
  szle (Nat.le_trans (Nat.add_le_add h.1 k.1) hn)
theorem atI_some {α : Type} {L : List α} {d : Int} (h0 : 0 ≤ d) (h1 : d < L.length) : ∃ c, atI L d = some c ∧ c ∈ L := by
  obtain ⟨j, rfl⟩ := Int.eq_ofNat_of_zero_le h0
  have hj : j < L.length := by omega
  exact ⟨L[j], atI_nat (List.getElem?_eq_getElem hj), List.getElem_mem hj⟩
/-- what isinstance(x, str) says of a datum -/
theorem Sh.ty {K : PySem.W.Frag} {nd : Bool} {H : Hp} {v : V} {d : PyData} (h : Sh K nd H v d) :
    ∃ T : String, TyX K H v (.type T) ∧ ((∃ x, v = .str x ∧ T = "str") ∨ ((∀ x, v ≠ .str x) ∧ (T = "NoneType" ∨ T = "bool" ∨ T = "int" ∨ T = "list" ∨ T = "tuple" ∨ T = "dict"))) := by
  cases h with
  | non => exact ⟨_, .base .non, .inr ⟨(fun x e => nomatch e), by simp⟩⟩
  | bl b => exact ⟨_, .base (.bl b), .inr ⟨(fun x e => nomatch e), by simp⟩⟩
  | int i => exact ⟨_, .base (.int i), .inr ⟨(fun x e => nomatch e), by simp⟩⟩
  | str x => exact ⟨_, .base (.str x), .inl ⟨x, rfl, rfl⟩⟩
  | lst hs _ _ =>
    refine ⟨"list", ?_, .inr ⟨(fun x e => nomatch e), by simp⟩⟩
    rcases hs with (h | ⟨o, h⟩) | ⟨o, its, n, hk, hc, _⟩
    · exact .base (.lst h)
    · exact .base (.frz h)
    · exact .kList hk hc
  | tup hs _ =>
    refine ⟨"tuple", ?_, .inr ⟨(fun x e => nomatch e), by simp⟩⟩
    rcases hs with (h | ⟨o, h⟩) | ⟨o, its, n, hk, hc, _⟩
    · exact .base (.tup h)
    · exact .fTuple h
    · exact .kTuple hk hc
  | dict _ h _ _ => exact ⟨"dict", .base (.dK h), .inr ⟨(fun x e => nomatch e), by simp⟩⟩
mutual
theorem Sh.same {K : PySem.W.Frag} {nd : Bool} {H H' : Hp} (s : Same H H') : ∀ {v : V} {d : PyData}, Sh K nd H v d → Sh K nd H' v d
  | _, _, .non => .non
  | _, _, .bl b => .bl b
  | _, _, .int i => .int i
  | _, _, .str x => .str x
  | _, _, .lst h1 h2 h3 => .lst (s.seq h1) h2 (ShAll.same s h3)
  | _, _, .tup h1 h3 => .tup (by
      rcases h1 with (h | ⟨o, h⟩) | h
      · exact .inl (.inl (s _ _ h))
      · exact .inl (.inr ⟨o, s _ _ h⟩)
      · exact .inr h) (ShAll.same s h3)
  | _, _, .dict e h1 h2 h3 => .dict e (s _ _ h1) (ShAll.same s h2) (ShAll.same s h3)
theorem ShAll.same {K : PySem.W.Frag} {nd : Bool} {H H' : Hp} (s : Same H H') : ∀ {vs : List V} {ds : List PyData}, ShAll K nd H vs ds → ShAll K nd H' vs ds
  | _, _, .nil => .nil
  | _, _, .cons h1 h2 => .cons (Sh.same s h1) (ShAll.same s h2)
end
/-! ### f(k = v): keywords alone -/
section
variable {X : Cx} {CX : CXT} {k : Nat} {f : Addr} {fd : FuncData} {ps ks : List Str} {sp : Sp} {E : XK}
  {x : Str} {p pos : Pos} {kws : List Keyword} {tk : TA}
  {g : List Value → List Value → List Value} {gV : List V → List V → List V}
theorem pe_kwOnly (F : FnOk X.prog X.w X.K X.mg X.base CX k f fd ps sp) (hr : Room k X.A) (hg : Gl X x)
    (hm : X.mg x = some (.ref f)) (hk : PySem.W.keepIn X.K (.ref f) = true) (hb : KBinds X.K fd ps ks g gV)
    (hx : Passes CX X E) (hkw : PK X kws tk)
    (hall : (backToKw pos (keywordEach kws X.env)).all (·.1.isSome) = true := by rfl)
    (hks : (backToKw pos (keywordEach kws X.env)).filterMap (·.1) = ks := by rfl)
    (hdb : (x == ("__debug__" : Str)) = false := by decide)
    (hpl : ((backTo pos (starEach [] X.env)).any (·.1) || (backToKw pos (keywordEach kws X.env)).any (·.1.isNone)) = false := by rfl) :
    PE X (.Call (.Name x p) [] kws pos) (tCallK sp gV E tNil tk) := by
  constructor
  intro pins s σ H Q I h
  refine wpAny_Call_Name_kw (ld_glob I hg hm ?_ hdb)
  refine PySem.W.callWith_KW0 (h₀ := X.base) I.ok.mod.kin hk hall ?_ hpl
  refine thn (hkw.run pos pins s σ H _ I h) fun ws s2 ⟨zs, H2, I2, rz, q2⟩ => ⟨I2.kIn, ?_⟩
  rw [hks]
  exact run_fnk (us := []) (vs := []) F hr hb hx I2 .nil rz q2
end
end Kv
/-! Data that are small enough to be shown. -/
namespace Kv
open PySem PySem.Spec PyProof.Rows L2
def Fit (n m : Nat) (d : PyData) : Prop := d.showable = true ∧ d.leavesShort 250 = true ∧ d.weight ≤ n ∧ d.depth ≤ m
def FitAll (n m : Nat) (ds : List PyData) : Prop :=
  PyData.showableAll ds = true ∧ PyData.leavesShortAll 250 ds = true ∧ PyData.weightAll ds ≤ n ∧ PyData.depthAll ds ≤ m
def FitKv (n m : Nat) (ds : List (PyData × PyData)) : Prop :=
  PyData.showableKv ds = true ∧ PyData.leavesShortKv 250 ds = true ∧ PyData.weightKv ds ≤ n ∧ PyData.depthKv ds ≤ m
theorem Fit.mono {n m n' m' : Nat} {d : PyData} (h : Fit n m d) (a : n ≤ n') (b : m ≤ m') : Fit n' m' d :=
  ⟨h.1, h.2.1, Nat.le_trans h.2.2.1 a, Nat.le_trans h.2.2.2 b⟩
theorem FitAll.mono {n m n' m' : Nat} {d : List PyData} (h : FitAll n m d) (a : n ≤ n') (b : m ≤ m') : FitAll n' m' d :=
  ⟨h.1, h.2.1, Nat.le_trans h.2.2.1 a, Nat.le_trans h.2.2.2 b⟩
theorem fit_non : Fit 0 0 .none := ⟨by simp [PyData.showable], by simp [PyData.leavesShort], by simp [PyData.weight], by simp [PyData.depth]⟩
theorem fit_bl {b : Bool} : Fit 0 0 (.bool b) := ⟨by simp [PyData.showable], by simp [PyData.leavesShort], by simp [PyData.weight], by simp [PyData.depth]⟩
theorem log2_small {i : Int} (h : i.natAbs ≤ 10 ^ 60) : i.natAbs.log2 < 200 := by
  by_cases h0 : i.natAbs = 0
  · rw [h0]
    decide
  · exact (Nat.log2_lt h0).mpr (Nat.lt_of_le_of_lt h (by decide))
theorem fit_int {i : Int} (h : i.natAbs ≤ 10 ^ 60) : Fit 200 0 (.int i) := by
  have hl := log2_small h
  refine ⟨?_, ?_, ?_, by simp [PyData.depth]⟩
  · simp only [PyData.showable, decide_eq_true_eq]
    omega
  · simp only [PyData.leavesShort]
    refine decide_eq_true ?_
    have e := int_text_length_le (k := 200) (by decide) hl
    have e2 : (PyData.shown (.int i)).length = (toString i).length := by
      simp only [PyData.shown]
      exact PySem.ofString_length _
    omega
  · simp only [PyData.weight]
    split <;> omega
theorem Sm.fit {n : Nat} {x : Str} (h : Sm n x) : Fit n 0 (.str x) := by
  refine ⟨by simp [PyData.showable], ?_, ?_, by simp [PyData.depth]⟩
  · simp only [PyData.leavesShort, List.all_eq_true, decide_eq_true_eq]
    intro c hc
    exact Nat.lt_trans (h.2 c hc) (by decide)
  · simp only [PyData.weight]
    exact h.1
theorem fitAll_nil {m : Nat} : FitAll 0 m [] := ⟨by simp [PyData.showableAll], by simp [PyData.leavesShortAll], by simp [PyData.weightAll], by simp [PyData.depthAll]⟩
theorem FitAll.cons {n n' m : Nat} {d : PyData} {ds : List PyData} (a : Fit n m d) (b : FitAll n' m ds) : FitAll (n + 1 + n') m (d :: ds) := by
  obtain ⟨a1, a2, a3, a4⟩ := a
  obtain ⟨b1, b2, b3, b4⟩ := b
  refine ⟨?_, ?_, ?_, ?_⟩
  · simp only [PyData.showableAll, a1, b1, Bool.and_self]
  · simp only [PyData.leavesShortAll, a2, b2, Bool.and_self]
  · simp only [PyData.weightAll]
    omega
  · simp only [PyData.depthAll]
    omega
theorem Fit.lst {n m : Nat} {ds : List PyData} (a : FitAll n m ds) : Fit n (m + 1) (.list ds) := by
  obtain ⟨a1, a2, a3, a4⟩ := a
  refine ⟨?_, ?_, ?_, ?_⟩
  · simp only [PyData.showable, a1]
  · simp only [PyData.leavesShort, a2]
  · simp only [PyData.weight]
    omega
  · simp only [PyData.depth]
    omega
theorem Fit.tup {n m : Nat} {ds : List PyData} (a : FitAll n m ds) : Fit n (m + 1) (.tuple ds) := by
  obtain ⟨a1, a2, a3, a4⟩ := a
  refine ⟨?_, ?_, ?_, ?_⟩
  · simp only [PyData.showable, a1]
  · simp only [PyData.leavesShort, a2]
  · simp only [PyData.weight]
    omega
  · simp only [PyData.depth]
    omega
theorem fitKv_nil {m : Nat} : FitKv 0 m [] := ⟨by simp [PyData.showableKv], by simp [PyData.leavesShortKv], by simp [PyData.weightKv], by simp [PyData.depthKv]⟩
theorem Fit.consKv {n n' n2 m : Nat} {d e : PyData} {ds : List (PyData × PyData)} (a : Fit n m d) (c : Fit n2 m e) (b : FitKv n' m ds) : FitKv (n + n2 + 2 + n') m ((d, e) :: ds) := by
  obtain ⟨a1, a2, a3, a4⟩ := a
  obtain ⟨b1, b2, b3, b4⟩ := b
  obtain ⟨c1, c2, c3, c4⟩ := c
  refine ⟨?_, ?_, ?_, ?_⟩
  · simp only [PyData.showableKv, a1, b1, c1, Bool.and_self]
  · simp only [PyData.leavesShortKv, a2, b2, c2, Bool.and_self]
  · simp only [PyData.weightKv]
    omega
  · simp only [PyData.depthKv]
    omega
theorem Fit.dict {n m : Nat} {ds : List (PyData × PyData)} (a : FitKv n m ds) : Fit n (m + 1) (.dict ds) := by
  obtain ⟨a1, a2, a3, a4⟩ := a
  refine ⟨?_, ?_, ?_, ?_⟩
  · simp only [PyData.showable, a1]
  · simp only [PyData.leavesShort, a2]
  · simp only [PyData.weight]
    omega
  · simp only [PyData.depth]
    omega
theorem Fit.ok {n m : Nat} {d : PyData} (h : Fit n m d) (hn : n ≤ 60000) (hm : m ≤ 60) : d.showable = true ∧ d.shown.length ≤ sizeLine ∧ d.depth ≤ 60 := by
  obtain ⟨h1, h2, h3, h4⟩ := h
  refine ⟨h1, ?_, by omega⟩
  have := PyData.shown_le 250 (by decide) d h2
  rw [sizeLine_eq]
  omega
/-- a value that can be shown -/
def Good (K : PySem.W.Frag) (H : Hp) (v : V) : Prop := ∃ (nd : Bool) (d : PyData), Sh K nd H v d ∧ Fit 2000 20 d ∧ ∀ x, v = .str x → Sm 1000 x
theorem Good.same {K : PySem.W.Frag} {H H' : Hp} {v : V} (g : Good K H v) (s : Same H H') : Good K H' v := by
  obtain ⟨nd, d, h, r⟩ := g
  exact ⟨nd, d, h.same s, r⟩
theorem Good.non {K : PySem.W.Frag} {H : Hp} : Good K H .non := ⟨true, _, .non, fit_non.mono (by decide) (by decide), fun x e => nomatch e⟩
theorem Good.bl {K : PySem.W.Frag} {H : Hp} {b : Bool} : Good K H (.bl b) := ⟨true, _, .bl b, fit_bl.mono (by decide) (by decide), fun x e => nomatch e⟩
theorem Good.int {K : PySem.W.Frag} {H : Hp} {i : Int} (h : i.natAbs ≤ 10 ^ 60) : Good K H (.int i) := ⟨true, _, .int i, (fit_int h).mono (by decide) (by decide), fun x e => nomatch e⟩
theorem Good.str {K : PySem.W.Frag} {H : Hp} {x : Str} {n : Nat} (h : Sm n x) (hn : n ≤ 1000 := by decide) : Good K H (.str x) :=
  ⟨true, _, .str x, h.fit.mono (by omega) (by decide), fun y e => by
    cases e
    exact h.mono hn⟩
end Kv
/-! len(set(t)), t a tuple of texts, of any number. -/
namespace Kv
open PySem PySem.Spec PyProof.Rows L2
/-- how many different texts stand among the first i -/
def met (xs : List Str) : Nat → Nat
  | 0 => 0
  | i + 1 => if (xs.take i).any (· == xs.getD i Str.empty) then met xs i else met xs i + 1
theorem met_le (xs : List Str) : ∀ i, met xs i ≤ i
  | 0 => Nat.le_refl _
  | i + 1 => by
    have := met_le xs i
    show (if _ then met xs i else met xs i + 1) ≤ _
    split
    · exact Nat.le_succ_of_le this
    · exact Nat.succ_le_succ this
theorem met_nodup {xs : List Str} (h : xs.Nodup) : ∀ i, i ≤ xs.length → met xs i = i
  | 0, _ => rfl
  | i + 1, hi => by
    have ih := met_nodup h i (by omega)
    show (if _ then met xs i else met xs i + 1) = _
    have e : (xs.take i).any (· == xs.getD i Str.empty) = false := by
      rw [List.any_eq_false]
      intro y hy hb
      have hb2 : y = xs.getD i Str.empty := by simpa using hb
      rw [List.getD_eq_getElem?_getD, List.getElem?_eq_getElem (by omega : i < xs.length)] at hb2
      have hb3 : y = xs[i] := hb2
      obtain ⟨j, hj, e1⟩ := List.getElem_of_mem hy
      rw [List.getElem_take] at e1
      have hj2 : j < i := by
        rw [List.length_take] at hj
        omega
      exact (List.pairwise_iff_getElem.mp h j i (by omega) (by omega) hj2) (by rw [e1, hb3])
    rw [e]
    show met xs i + 1 = i + 1
    rw [ih]
section
variable {prog : Program} {w : World} {A : Around} {R : Result → Shared → Prop} {I : Addr} {fp wr : List Addr}
  {G : Array GenState → Array GenState → Prop} {n : Nat} {P : Nat → Value → Prop} {Z : Nat → Shared → Prop}
/-- what the set holds behind i turns -/
abbrev SetBy (prog : Program) (w : World) (h : Heap) (a : Addr) (xs : List Str) (i : Nat) : Prop :=
  h.SetOf (PySem.strKind prog w) a (fun y => (xs.take i).any (· == y)) (met xs i)
theorem SetBy.kept {h h2 : Heap} {a : Addr} {xs : List Str} {i : Nat} (q : SetBy prog w h a xs i)
    (k : ∀ o, h.get? a = some o → h2.get? a = some o) : SetBy prog w h2 a xs i := by
  obtain ⟨o, es, ep, tb, ho, rest⟩ := q
  exact ⟨o, es, ep, tb, k _ ho, rest⟩
theorem fill_texts (W : WalksS prog w A.in1 I fp wr G n P Z) (a : Addr) (ha : a ∉ fp) (xs : List Str)
    (hl : xs.length = n) (hn : n + 1 < scanBound) (hv : ∀ i v, P i v → ∃ t, v = .str (xs.getD i Str.empty) t) :
    ∀ (k i : Nat) (s : Shared), n - i = k → i ≤ n → Z i s → SetBy prog w s.heap a xs i →
      (∀ s2, Moved (a :: wr) G s s2 → SetBy prog w s2.heap a xs n → R (.ok (.ret .none)) s2) →
      codeAny (model prog w) A (.builtin "set.update.loop" ⟨[.ref a, .ref I], []⟩) R s := by
  have haw : a ∉ wr := fun z => ha (W.sub _ z)
  have sub : ∀ b ∈ wr, b ∈ a :: wr := fun b hb => List.mem_cons_of_mem _ hb
  intro k
  induction k with
  | zero =>
    intro i s hk hi hz hS hR
    obtain rfl : i = n := by omega
    refine codeAny_builtin PyProof.Rows.F.entry_set_update_loop ?_
    rw [Around.under_plainId PyProof.Rows.F.plain_set_update_loop _]
    show wpAny _ A.in1 (pyNext (.ref I) >>= _) _ _ s
    refine wpAny_bind (W.done s _ _ hz ?_)
    intro s2 hm
    show wpAny _ A.in1 (ret Value.none) _ _ s2
    refine wpAny_pure (hR s2 (hm.mono sub) (hS.kept ?_))
    intro o ho
    exact hm.heap a _ haw ho
  | succ k ih =>
    intro i s hk hi hz hS hR
    have lt : i < n := by omega
    have mle := met_le xs i
    refine codeAny_builtin PyProof.Rows.F.entry_set_update_loop ?_
    rw [Around.under_plainId PyProof.Rows.F.plain_set_update_loop _]
    show wpAny _ A.in1 (pyNext (.ref I) >>= _) _ _ s
    refine wpAny_bind (W.item i s _ _ lt hz ?_)
    intro v s2 hP hz2 hm
    obtain ⟨t, rfl⟩ := hv i v hP
    have hS2 : SetBy prog w s2.heap a xs i := hS.kept fun o ho => hm.heap a _ haw ho
    show wpAny _ A.in1 (holding [Value.str (xs.getD i Str.empty) t]
      (setAdd a (.str (xs.getD i Str.empty) t)) >>= _) _ _ s2
    refine wpAny_bind (wpAny_holding ?_)
    unfold setAdd
    refine wpAny_holding ?_
    refine wpAny_bind ((PySem.strKind prog w).pyHash (k := xs.getD i Str.empty) (strKind_is _ _ _ _) ?_)
    refine wpAny_setAddHashed_of (knd := PySem.strKind prog w) (s := { s2 with toks := s2.toks + 1 })
      (strKind_is _ _ _ _) rfl hS2 (by omega) ?_
    intro h3 same hS3
    have hS4 : SetBy prog w h3 a xs (i + 1) := by
      refine SetOf_congr hS3 ?_ rfl
      intro y
      have ei : xs[i]? = some (xs.getD i Str.empty) := by
        rw [List.getD_eq_getElem?_getD, List.getElem?_eq_getElem (by omega : i < xs.length)]
        rfl
      rw [List.take_add_one, ei, List.any_append]
      congr 1
      show decide (y = xs.getD i Str.empty) = ([xs.getD i Str.empty].any (· == y))
      simp only [List.any_cons, List.any_nil, Bool.or_false]
      by_cases e : y = xs.getD i Str.empty
      · rw [decide_eq_true e, ← e]
        exact (beq_self_eq_true y).symm
      · rw [decide_eq_false e]
        exact (beq_eq_false_iff_ne.mpr fun z => e z.symm).symm
    refine wpAny_pure ⟨plainId_quiet PyProof.Rows.F.plain_set_update_loop _, ?_⟩
    refine ih (i + 1) _ (by omega) lt (W.frame _ s2 _ _ hz2 (Nat.le_succ _) ?_) hS4 ?_
    · intro b hb o e
      rw [same.2 b (fun z : b = a => ha (z ▸ hb))]
      exact e
    · intro s5 hm5 hS5
      refine hR s5 (Moved.trans W.gtrans ((hm.mono sub).then_heap (Nat.le_succ _) ?_) hm5) hS5
      intro b o hb e
      rw [same.2 b (fun z : b = a => hb (z ▸ List.mem_cons_self))]
      exact e
end
/-- an empty new set -/
abbrev emptySet (led : Bool) : Obj := { cls := .type "set", dict := none, data := .set #[] 0 (.fresh 0 0 led) }
section
variable {prog : Program} {w : World} {A : Around} {E : Value → Shared → Prop} {s : Shared}
set_option maxHeartbeats 3200000 in
theorem set_of_texts {t : Addr} {its : Array Value} {xs : List Str} {Q : Value → Shared → Prop}
    (hh : A.handled = none) (ht : s.heap.IsTuple t its) (hx : PyProof.Rows.StrsAre its.toList xs)
    (hb : xs.length + 1 < scanBound)
    (h : ∀ (h2 : Heap) (tk : Nat), SetBy prog w h2 s.heap.objs.size xs its.size →
      (∀ b o, b < s.heap.objs.size → s.heap.get? b = some o → h2.get? b = some o) →
      Q (.ref s.heap.objs.size) { s with heap := h2, toks := tk }) :
    wpAny (model prog w) A (call (.type "set") [.ref t]) Q E s := by
  obtain ⟨cc, ctl, hmro⟩ := PySem.F.called_set.mro
  have k1 := PySem.F.called_set.made
  have k2 := PySem.F.called_set.sub
  have k3 := PySem.F.called_set.notType
  have k4 := PySem.F.called_set.canCreate
  have k5 := PySem.F.typeCall_set_1 (.ref t)
  refine wpAny_call (codeAny_of_tree ?_)
  show wpAny _ _ (callAny (.type "set") _) _ _ _
  refine wpAny_pure ⟨Code.quiet_builtin _ (by decide +kernel),
    codeAny_builtin PySem.F.entry_type_call ?_⟩
  rw [Around.under_plain (weight_type_call_type "set" [.ref t] []) rfl]
  repeat (any_goals (first | assumption | wp_step))
  refine codeAny_mono (code_set_new_1 (.ref t) (E := E)
    (Q₁ := fun obj s1 => ∃ led : Bool, obj = .ref s.heap.objs.size ∧
      s1 = { s with heap := s.heap.push (emptySet led) }) fun led => ⟨led, rfl, rfl⟩) fun r s1 hr => ?_
  cases r with
  | error e => exact hr
  | ok fl =>
    cases fl with
    | next => exact hr.elim
    | brk => exact hr.elim
    | cont => exact hr.elim
    | ret obj =>
      obtain ⟨led, rfl, rfl⟩ := hr
      have hS : (s.heap.push (emptySet led)).get? s.heap.objs.size = some (emptySet led) :=
        Heap.get?_push_size _ rfl
      have hT : Shared.TypeIs { s with heap := s.heap.push (emptySet led) }
        (.ref s.heap.objs.size) "set" := ⟨_, hS, rfl⟩
      have k6 := PySem.F.called_set.init.lookup
      have k7 := PySem.F.called_set.init.bind (.ref s.heap.objs.size)
      repeat (any_goals (first | assumption | wp_step))
      refine codeAny_mono (codeAny_call_builtin
        (R := wants (fun r s2 => r = .none ∧ ∃ h2 tk, s2 = { s with heap := h2, toks := tk } ∧
          SetBy prog w h2 s.heap.objs.size xs its.size ∧
          (∀ b o, b < s.heap.objs.size → s.heap.get? b = some o → h2.get? b = some o)) E)
        PySem.F.called_set.init.plain PySem.F.entry_set_init (check_set_init_1 hT ?_)) fun r2 s2 hr2 => ?_
      · obtain ⟨ot, hot, hc, nt, hd⟩ := ht
        obtain ⟨c1, d1, dt, sl⟩ := ot
        simp only at hc hd
        subst hc hd
        have hot2 := Heap.get?_push_of_some (emptySet led) hot
        have k8 := PySem.F.sub_tuple_set
        have k9 := PySem.F.sub_tuple_frozenset
        have k10 : (Value.type "tuple" == Value.type "dict") = false := by decide
        have ht1 : (s.heap.push (emptySet led)).IsTuple t its := ⟨_, hot2, rfl, nt, rfl⟩
        unfold Builtin.«set.__init__» noKeywords Builtin.Frozenset.updateFrom
        generalize hPI : pyIter = PI
        wp_walk
        subst hPI
        refine wpAny_pyIter_tuple ht1 ?_
        refine wpAny_bind (wpAny_runValue ?_)
        have ltS : t < s.heap.objs.size := Heap.lt_size hot
        have hh3 : A.in1.in1.in1.handled = none := by simp [hh]
        have ne1 : t ≠ (s.heap.push (emptySet led)).objs.size := by
          rw [Heap.size_push]
          exact Nat.ne_of_lt (Nat.lt_succ_of_lt ltS)
        have nf : s.heap.objs.size ∉ [(s.heap.push (emptySet led)).objs.size, t] := by
          rw [Heap.size_push]
          intro z
          rcases List.mem_cons.mp z with y | y
          · exact absurd y (Nat.ne_of_lt (Nat.lt_succ_self _))
          · exact absurd (List.mem_singleton.mp y) (Nat.ne_of_gt ltS)
        have sz : xs.length = its.size := by
          rw [← StrsAre.len_eq hx, Array.length_toList]
        refine fill_texts ((Walks.tuple hh3 _ t ne1 its).toS) s.heap.objs.size nf xs sz (by omega)
          (fun i v e => SS.strs_at hx i v (by rw [Array.getElem?_toList]; exact e)) (its.size - 0) 0 _ (by omega) (Nat.zero_le _)
          ⟨⟨_, Heap.get?_push_size _ rfl, rfl, rfl⟩, (ht1.push _)⟩ ?c0 ?c1
        case c0 =>
          refine PyProof.Rows.SetOf_congr ((PyProof.Rows.setObjOf_fresh (knd := PySem.strKind prog w) led).setOf
            (Heap.get?_push_of_some _ hS) (by unfold scanBound; omega)) (fun _ => rfl) rfl
        case c1 =>
          intro s3 hm hS3
          obtain ⟨h3, g3, d3, tk3, os3⟩ := s3
          obtain rfl : g3 = s.gens := hm.gens
          obtain rfl : d3 = s.drawn := hm.drawn
          obtain rfl : os3 = s.os := hm.os
          show wpAny _ _ _ _ _ _
          refine wpAny_pure ?_
          show wpAny _ _ (ret Value.none) _ _ _
          refine wpAny_pure ⟨rfl, h3, tk3, rfl, hS3, ?_⟩
          intro b o hb e
          refine hm.heap b o ?_ (Heap.get?_push_of_some _ (Heap.get?_push_of_some _ e))
          intro z
          rcases List.mem_cons.mp z with y | y
          · exact absurd y (Nat.ne_of_lt hb)
          · have y2 := List.mem_singleton.mp y
            rw [Heap.size_push] at y2
            exact absurd y2 (Nat.ne_of_lt (Nat.lt_succ_of_lt hb))
      · cases r2 with
        | error e => exact hr2
        | ok fl2 =>
          cases fl2 with
          | next => exact hr2.elim
          | brk => exact hr2.elim
          | cont => exact hr2.elim
          | ret r =>
            obtain ⟨rfl, h2, tk, rfl, hS2, kp⟩ := hr2
            repeat (any_goals (first | assumption | wp_step))
            exact h _ _ hS2 kp
end
/-- len(set(t)) -/
def tLenTexts (K : PySem.W.Frag) (ta : TE) : TE := fun σ H Q => ta σ H fun x H1 =>
  ∃ (l : Addr) (xs : List Str), x = .ref l ∧ SqT K H1 l (xs.map V.str) ∧ xs.length ≤ 4000 ∧ Q (.int (met xs xs.length : Nat)) H1
section
variable {X : Cx} {a : Expr} {ta : TE} {p p2 q pos : Pos}
theorem pe_lenTexts (hc : X.calm = true) (hg : Gl X "len") (hm : X.mg "len" = none) (hg2 : Gl X "set")
    (hm2 : X.mg "set" = none) (ha : PE X a ta)
    (na : starEach [a] X.env = (false, eval a X.env) :: starEach [] X.env := by rfl) :
    PE X (.Call (.Name "len" p) [.Call (.Name "set" p2) [a] [] q] [] pos) (tLenTexts X.K ta) := by
  constructor
  intro pins s σ H Q I h
  refine Call_ (ld_blt I hg hm boot_len ?_)
  refine PyProof.Rows.callWith_builtin1
    (PyProof.Rows.args_cons ?_ rfl) rfl rfl
  refine Call_ (ld_blt I hg2 hm2 boot_set ?_)
  refine PyProof.Rows.callWith_type1 (PyProof.Rows.args_cons (thn (ha.run pins s σ H _ I h)
    fun v s1 ⟨x, H1, I1, r1, q1⟩ => PyProof.Rows.args_nil ?_) na) na rfl
  obtain ⟨l, xs, rfl, hq, hn, q1⟩ := q1
  cases r1
  obtain ⟨its, r, pl, hz⟩ := I1.tuple hq
  have hl : its.toArray.size = xs.length := by
    rw [List.size_toArray, ← r.length, List.length_map]
  refine set_of_texts (I1.ok.hd hc) pl (by simpa using strsAre_of r) (by unfold scanBound; omega) ?_
  intro h2 tk hS hk
  refine PyProof.Rows.args_nil ?_
  rw [hl] at hS
  obtain ⟨o, es, ep, t, ho, hex, hd, _, _, _, hf, hsz⟩ := hS
  have I2 : Inv X pins σ H1 { s1 with heap := h2, toks := tk } :=
    I1.kept fun b o e => hk b o (Heap.lt_size e) e
  have mle := met_le xs xs.length
  exact call_len_set ho hex hd hf (by rw [hsz]; omega)
    ⟨.int (met xs xs.length : Nat), H1, I2.tok _, ⟨_, by rw [hsz]⟩, q1⟩
end
end Kv
namespace Lw
open PySem PySem.Spec PyProof.Rows L2 Kv
def topS (i : Nat) : Stmt := PySem.Challenge.pw_fewestmethods_k26_all_points.main.body.getD i (.Pass ⟨0, 0, 0, 0⟩)
abbrev c_MethodsError : Stmt := topS 2
abbrev i_MethodsError : Stmt := inClass c_MethodsError 0
abbrev c_InvalidHierarchy : Stmt := topS 3
abbrev i_InvalidHierarchy : Stmt := inClass c_InvalidHierarchy 0
abbrev c_InvalidText : Stmt := topS 4
abbrev i_InvalidText : Stmt := inClass c_InvalidText 0
abbrev c_InvalidPoint : Stmt := topS 5
abbrev i_InvalidPoint : Stmt := inClass c_InvalidPoint 0
abbrev c_InvalidCount : Stmt := topS 6
abbrev i_InvalidCount : Stmt := inClass c_InvalidCount 0
abbrev c_NotFound : Stmt := topS 7
abbrev i_NotFound : Stmt := inClass c_NotFound 0
abbrev sIsName : Stmt := topS 11
abbrev sIsCount : Stmt := topS 14
abbrev sIsPoint : Stmt := topS 15
abbrev sReq : Stmt := topS 16
abbrev sComb : Stmt := topS 17
abbrev sAllPts : Stmt := topS 18
abbrev sPtsBelow : Stmt := topS 19
abbrev sAre : Stmt := topS 22
abbrev sProb : Stmt := topS 23
abbrev sAnc : Stmt := topS 24
abbrev sWrite : Stmt := topS 25
abbrev sRead : Stmt := topS 26
abbrev cHier : Stmt := topS 27
abbrev m_init : Stmt := inClass cHier 1
abbrev m_read : Stmt := inClass cHier 2
abbrev m_of : Stmt := inClass cHier 3
abbrev m_eq : Stmt := inClass cHier 4
abbrev m_len : Stmt := inClass cHier 5
abbrev m_repr : Stmt := inClass cHier 6
abbrev m_str : Stmt := inClass cHier 7
abbrev m_names : Stmt := inClass cHier 8
abbrev m_has_class : Stmt := inClass cHier 9
abbrev m_superclasses : Stmt := inClass cHier 10
abbrev m_position_of : Stmt := inClass cHier 11
abbrev m_require_class : Stmt := inClass cHier 12
abbrev m_is_at_or_below : Stmt := inClass cHier 13
abbrev m_ancestors : Stmt := inClass cHier 14
abbrev m_descendants : Stmt := inClass cHier 15
abbrev m_highest_common : Stmt := inClass cHier 16
abbrev m_with_class : Stmt := inClass cHier 17
abbrev m_without_class : Stmt := inClass cHier 18
abbrev sPot : Stmt := topS 29
abbrev sDraw : Stmt := topS 30
abbrev sMixed : Stmt := topS 31
abbrev sName : Stmt := topS 32
abbrev sNames : Stmt := topS 33
abbrev sKinds : Stmt := topS 34
abbrev sAbove : Stmt := topS 35
abbrev sUps : Stmt := topS 36
abbrev sUnder : Stmt := topS 37
abbrev sLAll : Stmt := topS 38
abbrev sCR : Stmt := topS 39
abbrev sLaw : Stmt := topS 40
end Lw
namespace Kv
open PySem PySem.Spec PyProof.Rows L2
/-- a pot stands at p -/
def PotAt (H : Hp) (p : Addr) : Prop := ∃ r g : Int, H p = some (.lst [.int r, .int g]) ∧ 0 ≤ r ∧ 0 ≤ g ∧ g < 2147483647
/-- all but p is as it was -/
def But (p : Addr) (H H' : Hp) : Prop := ∀ b o, b ≠ p → H b = some o → H' b = some o
theorem But.refl {p : Addr} {H : Hp} : But p H H := fun _ _ _ h => h
theorem But.trans {p : Addr} {H H1 H2 : Hp} (a : But p H H1) (b : But p H1 H2) : But p H H2 :=
  fun c o n h => b c o n (a c o n h)
theorem But.of_same {p : Addr} {H H1 : Hp} (a : Same H H1) : But p H H1 := fun c o _ h => a c o h
theorem same_new {H : Hp} {p : Addr} {o : HO} (h : H p = none) : Same H (upd H p o) := by
  intro b x e
  rw [upd_ne (ne_of_none e h)]
  exact e
theorem PotAt.same {H H' : Hp} {p : Addr} (h : PotAt H p) (s : Same H H') : PotAt H' p := by
  obtain ⟨r, g, e, q⟩ := h
  exact ⟨r, g, s _ _ e, q⟩
theorem divp_small {i j : Int} (hj : 0 < j) (h : j.natAbs < 2 ^ 8000) : CDivP i j := by
  refine ⟨hj, ?_⟩
  have hl : j.natAbs.log2 < 8000 := (Nat.log2_lt (by omega)).mpr h
  show (decide ((if j == 0 then 0 else j.natAbs.log2 / 30 + 1) > 300) && decide (_ > _)) = false
  have z : ¬ ((if j == 0 then 0 else j.natAbs.log2 / 30 + 1) > 300) := by
    split <;> omega
  rw [decide_eq_false z, Bool.false_and]
theorem But.new {p q : Addr} {H H1 : Hp} {o : HO} (a : But p H H1) (n : H1 q = none) : But p H (upd H1 q o) :=
  fun c u nc h => same_new n c u (a c u nc h)
theorem same_new2 {H : Hp} {p : Addr} {o u : HO} (h : H p = none) : Same H (upd (upd H p o) p u) := by
  rw [upd_upd]
  exact same_new h
theorem num_sm {i : Int} (h0 : 0 ≤ i) (h : i.natAbs ≤ 10 ^ 60) : Sm 250 (Str.ofString (toString i)) := by
  obtain ⟨n, rfl⟩ := Int.eq_ofNat_of_zero_le h0
  refine ⟨?_, fun c hc => ?_⟩
  · have e := int_text_length_le (k := 200) (by decide) (log2_small h)
    rw [PySem.ofString_length]
    omega
  · have e : TL.tl (Str.ofString (toString ((n : Nat) : Int))) = TL.numL n := TL.tl_num n
    have hc2 : c ∈ TL.numL n := by
      rw [← e]
      exact hc
    unfold TL.numL at hc2
    obtain ⟨z, hz, rfl⟩ := List.mem_map.mp hc2
    have := Nat.isDigit_of_mem_toDigits (by decide) (by decide) hz
    simp only [Char.isDigit, Bool.and_eq_true, decide_eq_true_eq] at this
    have h2 : z.val.toNat ≤ 57 := this.2
    show z.val.toNat < 128
    omega
theorem But.same {p : Addr} {H0 H H' : Hp} (h : But p H H') (n : H0 p = none) (s : Same H0 H) : Same H0 H' :=
  fun b o e => h b o (ne_of_none e n) (s b o e)
theorem all_true (i : Nat) : (List.replicate i true).all id = true := by
  rw [List.all_eq_true]
  intro b hb
  exact (List.mem_replicate.mp hb).2
def az : List Nat := ("abcdefghijklmnopqrstuvwxyz" : Str).cps.toList
def inAz (c : Nat) : Bool := decide (c ∈ az)
/-- is it a name -/
def nameV : V → Bool
  | .str x => (decide (1 ≤ x.length) && decide (x.length ≤ 8)) && x.cps.toList.all inAz
  | _ => false
theorem nameV_not {v : V} (h : ∀ x, v ≠ .str x) : nameV v = false := by
  cases v with
  | str x => exact absurd rfl (h x)
  | _ => rfl
end Kv
namespace Lw
open PySem PySem.Spec PyProof.Rows L2 Kv
theorem scPot : FnScope ["_law_script", "_law_k", "_law_cell"] ["_law_script", "_law_k"] (defScope sPot) :=
  ⟨rfl, rfl, rfl, by decide +kernel, rfl, by decide +kernel, by decide +kernel⟩
theorem scDraw : FnScope ["_law_pot_here", "_law_many", "_law_digit"] ["_law_pot_here", "_law_many"] (defScope sDraw) :=
  ⟨rfl, rfl, rfl, by decide +kernel, rfl, by decide +kernel, by decide +kernel⟩
section
variable {P : Program} {w : World} {K : PySem.W.Frag} {mg : Str → Option Value} {base : Heap}
def spPot (K : PySem.W.Frag) : Sp := fun vs H Q _ => ∃ (a : Addr) (ns : List Int) (j : Nat),
  vs = [.ref a, .int j] ∧ SqL K H a (ns.map V.int) ∧ j ≤ 1000 ∧
  ∀ p H', Same H H' → H p = none → PotAt H' p → Q (.ref p) H'
theorem ok_pot {f : Addr} {fd : FuncData} {k : Nat} (F : Fun K "_law_pot" "_law_pot" sPot f fd)
    (ml : mg "len" = none) (mm : mg "max" = none) (ma : mg "abs" = none) :
    FnOk P w K mg base CX0 (k + 1) f fd ["_law_script", "_law_k"] (spPot K) := by
  refine F.ok scPot (fun vs H Q E h => ?_) (fun cdv A outer s H vs Q E hr h => ?_)
  · obtain ⟨a, ns, j, rfl, _⟩ := h
    rfl
  · obtain ⟨a, ns, j, rfl, hS, hj, q⟩ := h
    refine ⟨_, pss_cons (ps_set (i := 2) scPot.nd rfl (.inl rfl)
        (pe_ifExp (pt_cmpR op_lt (pv 1) (pe_callB call_len_seq (by rfl) ml PySem.boot_len (pa_cons (pv 0) pa_nil)) (nomark _))
          (pe_ix ix_list (pv 0) (pv 1) (fun _ _ => rfl)) pe_int))
      (pss_one (ps_ret (pe_lst (pa_cons
        (pe_callB (call_max2 rfl) (by rfl) mm (by decide +kernel) (pa_cons pe_int (pa_cons
          (pe_op op_sub (pe_callB call_abs (by rfl) ma (by decide +kernel) (pa_cons (pv 2) pa_nil)) (pe_op op_pow pe_int pe_int)) pa_nil)))
        (pa_cons (pe_op op_mod (pe_op op_add (pe_op op_add (pe_op op_mul (pe_op op_mod (pe_callB call_abs (by rfl) ma (by decide +kernel) (pa_cons (pv 2) pa_nil)) pe_int) pe_int)
          (pe_op op_mul pe_int (pv 1))) pe_int) pe_int) pa_nil))))), ?_⟩
    refine ⟨.int j, rfl, .ref a, rfl, a, _, rfl, .inl hS, _, _, rfl, rfl, _, rfl, ite2 (fun e => ?_) (fun e => ?_)⟩
    · have e1 : (j : Int) < ((ns.map V.int).length : Int) := of_decide_eq_true e
      have e2 : j < ns.length := by
        rw [List.length_map] at e1
        omega
      refine ⟨.ref a, rfl, .int j, rfl, a, _, j, .int ns[j], rfl, rfl, hS, atI_nat (j := j) (by
        rw [List.getElem?_map, List.getElem?_eq_getElem e2]
        rfl), ?_⟩
      generalize ns[j] = c
      have b1 : 0 ≤ (if c < 0 then -c else c) % 2147483587 := Int.emod_nonneg _ (by decide)
      have b2 : (if c < 0 then -c else c) % 2147483587 < 2147483587 := Int.emod_lt_of_pos _ (by decide)
      refine ⟨.int c, rfl, c, rfl, 10, 18, rfl, rfl, ⟨by decide, by decide, by decide⟩, _, _, rfl, rfl, _, _, rfl,
        .int c, rfl, c, rfl, _, _, rfl, rfl, (by decide : (0 : Int) < 2147483587), _, _, rfl, rfl, .inl ⟨?_, ?_⟩,
        .int j, rfl, _, _, rfl, rfl, .inl ⟨by decide, by decide⟩, _, _, rfl, rfl, _, _, rfl, rfl, _, _, rfl, rfl, (by decide : (0 : Int) < 2147483647),
        (by decide : 2 ≤ sizeLine), fun p np => ?_⟩
      · omega
      · omega
      · exact q p _ (same_new np) np ⟨_, _, upd_same, by split <;> omega, Int.emod_nonneg _ (by decide), Int.emod_lt_of_pos _ (by decide)⟩
    · have b1 : 0 ≤ (if (0 : Int) < 0 then -0 else 0) % 2147483587 := Int.emod_nonneg _ (by decide)
      have b2 : (if (0 : Int) < 0 then -0 else 0) % 2147483587 < 2147483587 := Int.emod_lt_of_pos _ (by decide)
      refine ⟨.int 0, rfl, 0, rfl, 10, 18, rfl, rfl, ⟨by decide, by decide, by decide⟩, _, _, rfl, rfl, _, _, rfl,
        .int 0, rfl, 0, rfl, _, _, rfl, rfl, (by decide : (0 : Int) < 2147483587), _, _, rfl, rfl, .inl ⟨?_, ?_⟩,
        .int j, rfl, _, _, rfl, rfl, .inl ⟨by decide, by decide⟩, _, _, rfl, rfl, _, _, rfl, rfl, _, _, rfl, rfl, (by decide : (0 : Int) < 2147483647),
        (by decide : 2 ≤ sizeLine), fun p np => ?_⟩
      · omega
      · omega
      · exact q p _ (same_new np) np ⟨_, _, upd_same, by split <;> omega, Int.emod_nonneg _ (by decide), Int.emod_lt_of_pos _ (by decide)⟩
end
section
variable {P : Program} {w : World} {K : PySem.W.Frag} {mg : Str → Option Value} {base : Heap}
def spDraw : Sp := fun vs H Q _ => ∃ (p : Addr) (m : Int), vs = [.ref p, .int m] ∧ PotAt H p ∧ 0 < m ∧ m ≤ 10 ^ 60 ∧
  ∀ H' (d : Int), 0 ≤ d → d < m → PotAt H' p → But p H H' → Q (.int d) H'
theorem ok_draw {f : Addr} {fd : FuncData} {k : Nat} (F : Fun K "_law_draw" "_law_draw" sDraw f fd)
    (md : mg "divmod" = none) : FnOk P w K mg base CX0 (k + 1) f fd ["_law_pot_here", "_law_many"] spDraw := by
  refine F.ok scDraw (fun vs H Q E h => ?_) (fun cdv A outer s H vs Q E hr h => ?_)
  · obtain ⟨a, m, rfl, _⟩ := h
    rfl
  · obtain ⟨a, m, rfl, ⟨r, g, hp, r0, g0, g1⟩, m0, m1, q⟩ := h
    refine ⟨_, pss_cons (ps_if (pt_cmpR op_gt (pe_ix ix_list (pv 0) pe_int (fun _ _ => rfl)) pe_int (nomark _))
        (pss_cons (ps_asg (pe_callB call_divmodW (by rfl) md (by decide +kernel) (pa_cons (pe_ix ix_list (pv 0) pe_int (fun _ _ => rfl)) (pa_cons (pv 1) pa_nil)))
            (pg_tup (by rfl) (pgs_cons (pg_sub (pv 0) pe_int set_list) (pgs_cons (pg_name (i := 2) scDraw.nd rfl (.inl rfl)) pgs_nil))))
          (pss_one (ps_ret (pv 2)))) pss_nil)
      (pss_cons (ps_asg (pe_op op_mod (pe_op op_add (pe_op op_mul (pe_ix ix_list (pv 0) pe_int (fun _ _ => rfl)) pe_int) pe_int) pe_int) (pg_sub (pv 0) pe_int set_list))
      (pss_one (ps_ret (pe_op op_mod (pe_op op_fdiv (pe_op op_mod (pe_op op_mul (pe_ix ix_list (pv 0) pe_int (fun _ _ => rfl)) (pe_ix ix_list (pv 0) pe_int (fun _ _ => rfl))) pe_int) pe_int) (pv 1))))), ?_⟩
    have hS : SqL K H a [.int r, .int g] := .inl (.inl hp)
    refine ⟨.ref a, rfl, a, _, 0, .int r, rfl, rfl, hS, rfl, _, _, rfl, rfl, _, rfl, ite2 (fun e => ?_) (fun e => ?_)⟩
    · have e1 : r > 0 := of_decide_eq_true e
      refine ⟨.ref a, rfl, a, _, 0, .int r, rfl, rfl, hS, rfl, .int m, rfl, _, _, rfl, divp_small m0 ?_, fun t nt => ?_⟩
      · have : m.natAbs ≤ 10 ^ 60 := by omega
        exact Nat.lt_of_le_of_lt this (Nat.lt_of_lt_of_le (by decide : 10 ^ 60 < 2 ^ 200) (Nat.pow_le_pow_right (by decide) (by decide)))
      · have nta : a ≠ t := ne_of_none hp nt
        refine ⟨t, _, rfl, .inl (.inl upd_same), rfl, _, _, rfl, .ref a, rfl, a, _, 0, 0, rfl, rfl, (by rw [upd_ne nta]; exact hp), rfl, _, _, rfl, rfl, _, rfl, ?_⟩
        refine q _ _ (Int.emod_nonneg _ (by omega)) (Int.emod_lt_of_pos _ m0) ⟨_, _, upd_same, Int.ediv_nonneg r0 (by omega), g0, g1⟩ ?_
        intro b o nb hb
        rw [upd_ne nb, upd_ne (ne_of_none hb nt)]
        exact hb
    · refine ⟨.ref a, rfl, a, _, 1, .int g, rfl, rfl, hS, rfl, _, _, rfl, rfl, .inl ⟨by omega, by omega⟩, _, _, rfl, rfl, _, _, rfl, rfl, (by decide : (0 : Int) < 2147483629),
        .ref a, rfl, a, _, 1, 1, rfl, rfl, hp, rfl, ?_⟩
      have b0 : 0 ≤ ((g * 39373 + 12227) % 2147483629) := Int.emod_nonneg _ (by decide)
      have b1 : ((g * 39373 + 12227) % 2147483629) < 2147483629 := Int.emod_lt_of_pos _ (by decide)
      have hS2 : SqL K (upd H a (.lst [.int r, .int ((g * 39373 + 12227) % 2147483629)])) a [.int r, .int ((g * 39373 + 12227) % 2147483629)] := .inl (.inl upd_same)
      refine ⟨.ref a, rfl, a, _, 1, .int ((g * 39373 + 12227) % 2147483629), rfl, rfl, hS2, rfl, .ref a, rfl, a, _, 1, .int ((g * 39373 + 12227) % 2147483629), rfl, rfl, hS2, rfl, _, _, rfl, rfl, .inl ⟨by omega, by omega⟩,
        _, _, rfl, rfl, (by decide : (0 : Int) < 2147483563), _, _, rfl, rfl, ⟨by decide, by decide⟩, .int m, rfl, _, _, rfl, rfl, m0, ?_⟩
      refine q _ _ (Int.emod_nonneg _ (by omega)) (Int.emod_lt_of_pos _ m0) ⟨_, _, upd_same, r0, b0, by omega⟩ ?_
      intro b o nb hb
      rw [upd_ne nb]
      exact hb
end
end Lw
namespace Lw
open PySem PySem.Spec PyProof.Rows L2 Kv
theorem scIsName : FnScope ["value", "letter"] ["value"] (defScope sIsName) :=
  ⟨rfl, rfl, rfl, by decide +kernel, rfl, by decide +kernel, by decide +kernel⟩
section
variable {P : Program} {w : World} {K : PySem.W.Frag} {mg : Str → Option Value} {base : Heap}
def spName (K : PySem.W.Frag) : Sp := fun vs H Q _ => ∃ v : V, vs = [v] ∧ Good K H v ∧ ∀ H', Same H H' → Q (.bl (nameV v)) H'
theorem ok_isname {f : Addr} {fd : FuncData} {k : Nat} {t1 t2 : Tok} (F : Fun K "is_name" "is_name" sIsName f fd)
    (mi : mg "isinstance" = none) (ms : mg "str" = none) (ml : mg "len" = none) (ma : mg "all" = none)
    (g1 : mg "LETTERS" = some (.str "abcdefghijklmnopqrstuvwxyz" t1)) (g2 : mg "LONGEST_NAME" = some (.int 8 t2)) :
    FnOk P w K mg base CX0 (k + 1) f fd ["value"] (spName K) := by
  refine F.ok scIsName (fun vs H Q E h => ?_) (fun cdv A outer s H vs Q E hr h => ?_)
  · obtain ⟨a, rfl, _⟩ := h
    rfl
  · obtain ⟨v, rfl, ⟨nd, d, sh, hf, hv⟩, q⟩ := h
    refine ⟨_, pss_cons (ps_if (pt_not (pt_val (pe_callB call_isi (by rfl) mi (by decide +kernel) (pa_cons (pv 0)
          (pa_cons (pe_bltn (v := .ty "str") (by rfl) ms (by decide +kernel : bootBuiltins "str" = some (.type "str")) rfl) pa_nil))))) (pss_one (ps_ret pe_bl)) pss_nil)
      (pss_one (ps_ret (pe_and (pe_chain op_le op_le pe_int (pe_callB call_len_str (by rfl) ml PySem.boot_len (pa_cons (pv 0) pa_nil)) (pe_glob (v := .int 8) (by rfl) g2 ⟨_, rfl⟩))
        (pe_one (pe_callB (cr_all rfl) (by rfl) ma (by decide +kernel) (pa_cons
          (pe_lc (own := [("letter", 1)]) (g := gName 1) (tt := tYes) rfl scIsName.nd (pi_str (pv 0))
            (blkOk_by (own := [("letter", 1)]) (N := ["value", "letter"]) (sc := defScope sIsName) (by decide +kernel))
            (fun _ _ _ _ _ => pg_name (i := 1) scIsName.nd rfl (Or.inl rfl)) (fun _ _ _ _ _ => pts_nil)
            (fun _ _ _ _ _ => pe_cmpR op_in_sign (pv 1) (pe_glob (v := .str "abcdefghijklmnopqrstuvwxyz") (by rfl) g1 ⟨_, rfl⟩) rfl)) pa_nil)))))), ?_⟩
    obtain ⟨T, ty, hT⟩ := sh.ty
    rcases hT with ⟨x, rfl, rfl⟩ | ⟨hne, hT⟩
    · have hx := hv x rfl
      have hxl : x.length ≤ sizeLine := szle (Nat.le_trans hx.1 (by decide))
      refine ⟨.str x, rfl, .str x, .ty "str", _, _, true, rfl, .ty "str", ty, kit_ty (by decide +kernel), true, rfl, iteF ?_⟩
      refine ⟨.str x, rfl, x, rfl, hxl, _, _, rfl, rfl, _, rfl, ite2 (fun e => ?_) (fun e => ?_)⟩
      · have e1 : (1 : Int) ≤ x.length := of_decide_eq_true e
        refine ⟨_, _, rfl, rfl, _, rfl, ite2 (fun e2 => ?_) (fun e2 => ?_)⟩
        · have e3 : (x.length : Int) ≤ 8 := of_decide_eq_true e2
          refine ⟨.str x, rfl, x, rfl, fun D nD => ?_⟩
          refine lc_it walk_str (fun i H3 => H3 = upd H D (.lst ((x.cps.toList.take i).map fun c => .bl (inAz c)))) ?_ (fun _ _ _ _ => trivial) (fun i y H3 H4 hi hP hY => ?_) (fun H3 hP => ?_)
          · rfl
          · obtain ⟨rfl, c, hc, rfl⟩ := hY
            subst hP
            refine ⟨rfl, .str ⟨#[c]⟩, rfl, c, _, rfl, rfl, _, upd_same, ?_, ?_⟩
            · rw [List.length_map, List.length_take]
              exact sz1 (by
                have : i < x.length := hi
                omega)
            · have hc2 : x.cps.toList[i]? = some c := by
                rw [Array.getElem?_toList]
                exact hc
              rw [upd_upd, List.take_add_one, hc2, List.map_append]
              rfl
          · subst hP
            refine ⟨D, (x.cps.toList.take x.cps.size).map inAz, rfl, .inl (.inl ?_), ?_⟩
            · rw [upd_same, List.map_map]
              rfl
            · have e4 : x.cps.toList.take x.cps.size = x.cps.toList := List.take_of_length_le (by rw [Array.length_toList]; exact Nat.le_refl _)
              have e5 : ((x.cps.toList.take x.cps.size).map inAz).all id = nameV (.str x) := by
                rw [e4, List.all_map]
                show _ = ((decide (1 ≤ x.length) && decide (x.length ≤ 8)) && x.cps.toList.all inAz)
                rw [decide_eq_true (by omega : 1 ≤ x.length), decide_eq_true (by omega : x.length ≤ 8)]
                rfl
              rw [e5]
              exact q _ (same_new nD)
        · have e3 : ¬ (x.length : Int) ≤ 8 := fun z => e2 (decide_eq_true z)
          have e5 : nameV (.str x) = false := by
            show ((decide (1 ≤ x.length) && decide (x.length ≤ 8)) && x.cps.toList.all inAz) = false
            rw [decide_eq_false (by omega : ¬ x.length ≤ 8), Bool.and_false, Bool.false_and]
          have := q H (Same.refl _)
          rw [e5] at this
          exact this
      · have e1 : ¬ (1 : Int) ≤ x.length := fun z => e (decide_eq_true z)
        have e5 : nameV (.str x) = false := by
          show ((decide (1 ≤ x.length) && decide (x.length ≤ 8)) && x.cps.toList.all inAz) = false
          rw [decide_eq_false (by omega : ¬ 1 ≤ x.length), Bool.false_and, Bool.false_and]
        have := q H (Same.refl _)
        rw [e5] at this
        exact ⟨false, rfl, iteF this⟩
    · have hk : kitB T "str" = some false := by
        rcases hT with rfl | rfl | rfl | rfl | rfl | rfl <;> decide +kernel
      have := q H (Same.refl _)
      rw [nameV_not hne] at this
      exact ⟨v, rfl, v, .ty "str", _, _, false, rfl, .ty "str", ty, kit_ty hk, false, rfl, iteT this⟩
end
end Lw
namespace Lw
open PySem PySem.Spec PyProof.Rows L2 Kv
theorem perm_erase {α : Type} : ∀ (l : List α) (i : Nat) (x : α), l[i]? = some x → (x :: l.eraseIdx i).Perm l
  | [], i, x, h => by simp at h
  | y :: r, 0, x, h => by
    have e : y = x := by simpa using h
    subst e
    exact List.Perm.refl _
  | y :: r, i + 1, x, h => by
    have ih := perm_erase r i x (by simpa using h)
    exact (List.Perm.swap y x (r.eraseIdx i)).trans (ih.cons y)
theorem len_erase {α : Type} {l : List α} {i : Nat} {x : α} (h : l[i]? = some x) : (l.eraseIdx i).length + 1 = l.length :=
  (perm_erase l i x h).length_eq
theorem seqIx {d : Int} {n : Nat} (h0 : 0 ≤ d) (h1 : d < n) : seqIndex? d n = some d.toNat := by
  unfold seqIndex?
  simp only [show ¬ d < 0 by omega, if_false]
  simp [h0, h1]
/-- one letter each -/
theorem join_az : ∀ ys : List Str, (∀ y ∈ ys, ∃ c, c ∈ az ∧ y = ⟨#[c]⟩) →
    (Txt.join "" ys).length = ys.length ∧ ∀ c ∈ (Txt.join "" ys).cps.toList, c ∈ az := by
  intro ys hy
  have e : (Txt.join "" ys).cps.toList = (ys.map TL.tl).flatten := by
    rw [TL.join_eq]
    show TL.tl (Str.join _ _) = _
    rw [TL.tl_join]
    exact joinL_nil _
  refine ⟨?_, fun c hc => ?_⟩
  · rw [Kv.len_list, e]
    clear e
    induction ys with
    | nil => rfl
    | cons y r ih =>
      obtain ⟨c, _, h1⟩ := hy y (List.mem_cons_self ..)
      have h2 := ih fun z hz => hy z (List.mem_cons_of_mem _ hz)
      simp only [List.map_cons, List.flatten_cons, List.length_append, List.length_cons, h2]
      have h3 : (TL.tl y).length = 1 := by
        rw [h1]
        rfl
      omega
  · rw [e] at hc
    obtain ⟨l, hl, hcl⟩ := List.mem_flatten.mp hc
    obtain ⟨y, hm, rfl⟩ := List.mem_map.mp hl
    obtain ⟨d, hd, rfl⟩ := hy y hm
    have : c = d := by simpa [TL.tl] using hcl
    rw [this]
    exact hd
theorem name_sm {x : Str} (h : nameV (.str x) = true) : Sm 8 x := by
  have h1 : ((decide (1 ≤ x.length) && decide (x.length ≤ 8)) && x.cps.toList.all inAz) = true := h
  simp only [Bool.and_eq_true, decide_eq_true_eq, List.all_eq_true] at h1
  refine ⟨h1.1.2, fun c hc => ?_⟩
  have h2 := of_decide_eq_true (h1.2 c hc)
  have : ∀ z ∈ az, z < 128 := by decide +kernel
  exact this c h2
section
variable {P : Program} {w : World} {K : PySem.W.Frag} {mg : Str → Option Value} {base : Heap}
/-- what len of a list or tuple asks -/
def rLenS (K : PySem.W.Frag) : List V → Hp → VK → Prop := fun xs H Q => ∃ p ys, xs = [.ref p] ∧ (SqL K H p ys ∨ SqT K H p ys) ∧ Q (.int ys.length) H
theorem scMixed : FnScope ["_law_pot_here", "_law_some", "_law_left", "_law_turn"] ["_law_pot_here", "_law_some"] (defScope sMixed) :=
  ⟨rfl, rfl, rfl, by decide +kernel, rfl, by decide +kernel, by decide +kernel⟩
def spMixed (K : PySem.W.Frag) : Sp := fun vs H Q _ => ∃ (p b : Addr) (xs : List V), vs = [.ref p, .ref b] ∧ PotAt H p ∧ SqL K H b xs ∧ xs.length ≤ 100 ∧
  ∀ H' D (ys : List V), PotAt H' p → But p H H' → H D = none → D ≠ p → H' D = some (.lst ys) → ys.Perm xs → Q (.ref D) H'
theorem ok_mixed {f fD : Addr} {fd fdD : FuncData} {k : Nat} (F : Fun K "_law_mixed" "_law_mixed" sMixed f fd)
    (FD : Fun K "_law_draw" "_law_draw" sDraw fD fdD) (bD : Binds K fdD ["_law_pot_here", "_law_many"] [])
    (gD : mg "_law_draw" = some (.ref fD)) (md : mg "divmod" = none) (mr : mg "range" = none) (ml : mg "len" = none) (mL : mg "list" = none) :
    FnOk P w K mg base CX0 (k + 2) f fd ["_law_pot_here", "_law_some"] (spMixed K) := by
  have GD : FnOk P w K mg base CX0 (k + 1) fD fdD ["_law_pot_here", "_law_many"] spDraw := ok_draw FD md
  refine F.ok scMixed (fun vs H Q E h => ?_) (fun cdv A outer s H vs Q E hr h => ?_)
  · obtain ⟨a, b, xs, rfl, _⟩ := h
    rfl
  · obtain ⟨p, b, xs, rfl, hp, hb, hx, q⟩ := h
    refine ⟨_, pss_cons (ps_set (i := 2) scMixed.nd rfl (.inr rfl) (pe_callTy call_list_of (by rfl) mL (by decide +kernel) (pa_cons (pv 1) pa_nil)))
      (pss_one (ps_ret (pe_lc (own := [("_law_turn", 3)]) (g := gName 3) (tt := tYes)
        (te := tBM K "list" rPopAt (tVar 2) (tCons (tCall spDraw [] E0 (tCons (tVar 0) (tCons (tCB (rLenS K) (tCons (tVar 2) tNil)) tNil))) tNil)) rfl scMixed.nd
        (pi_range1 rfl mr (pa_cons (pe_callB call_len_seq (by rfl) ml PySem.boot_len (pa_cons (pv 1) pa_nil)) pa_nil))
        (blkOk_by (own := [("_law_turn", 3)]) (N := ["_law_pot_here", "_law_some", "_law_left", "_law_turn"]) (sc := defScope sMixed) (by decide +kernel))
        (fun _ _ _ _ _ => pg_name (i := 3) scMixed.nd rfl (Or.inl rfl)) (fun _ _ _ _ _ => pts_nil)
        (fun _ _ _ _ _ => pe_bm PySem.F.plainAttrs_list PySem.F.slot_list_pop PySem.F.type_list_pop mt_popAt (pv 2)
          (pa_cons (pe_call GD hr (by rfl) gD FD.kp bD .nil pass0 (pa_cons (pv 0) (pa_cons (pe_callB call_len_seq (by rfl) ml PySem.boot_len (pa_cons (pv 2) pa_nil)) pa_nil))) pa_nil))))), ?_⟩
    refine ⟨.ref b, rfl, b, xs, rfl, .inl hb, fun l nl => ?_⟩
    have nlp : p ≠ l := by
      obtain ⟨_, _, e, _⟩ := hp
      exact ne_of_none e nl
    have s1 : Same H (upd H l (.lst xs)) := same_new nl
    refine ⟨.ref b, rfl, b, xs, rfl, .inl (s1.seq hb), _, rfl, by omega, by omega, fun D nD => ?_⟩
    have nDp : p ≠ D := by
      obtain ⟨_, _, e, _⟩ := hp
      exact ne_of_none (s1 _ _ e) nD
    have nDl : l ≠ D := fun z => by
      rw [← z, upd_same] at nD
      cases nD
    have nD0 : H D = none := s1.free nD
    refine lc_range (lo := 0) (n := (xs.length : Int).toNat) (fun i H3 => ∃ out rest : List V, H3 D = some (.lst out) ∧ H3 l = some (.lst rest) ∧ (out ++ rest).Perm xs ∧ out.length = i ∧ PotAt H3 p ∧ But p H H3)
      ⟨[], xs, upd_same, by rw [upd_ne nDl, upd_same], List.Perm.refl _, rfl, (hp.same s1).same (same_new nD), (But.of_same s1).new nD⟩ (fun i H3 hi hP => ?_) (fun H3 hP => ?_)
    · obtain ⟨out, rest, e1, e2, e3, e4, e5, e6⟩ := hP
      have le := e3.length_eq
      rw [List.length_append] at le
      have hi2 : i < xs.length := by omega
      refine ⟨rfl, .ref l, rfl, .inl ⟨rfl, _, .inl (.inl e2)⟩, .ref p, rfl, .ref l, rfl, l, rest, rfl, .inl (.inl (.inl e2)), p, _, rfl, e5, by omega, by omega, fun H4 d d0 d1 hp4 s4 => ?_⟩
      have hd : d.toNat < rest.length := by omega
      have ey : rest[d.toNat]? = some rest[d.toNat] := List.getElem?_eq_getElem hd
      have e2' := s4 _ _ nlp.symm e2
      refine ⟨l, rest, d, d.toNat, rest[d.toNat], rfl, rfl, e2', by omega, by omega, seqIx d0 d1, ey, ?_⟩
      refine ⟨out, by rw [upd_ne nDl.symm]; exact s4 _ _ nDp.symm e1, sz1 (by omega), ?_⟩
      refine ⟨out ++ [rest[d.toNat]], rest.eraseIdx d.toNat, upd_same, by rw [upd_ne nDl, upd_same], ?_, ?_, ?_, ?_⟩
      · rw [List.append_assoc]
        exact ((perm_erase rest _ _ ey).append_left out).trans e3
      · rw [List.length_append, e4]
        rfl
      · obtain ⟨r, g, e, h⟩ := hp4
        exact ⟨r, g, by rw [upd_ne nDp, upd_ne nlp]; exact e, h⟩
      · intro c o nc hc
        rw [upd_ne (ne_of_none hc nD0), upd_ne (ne_of_none hc nl)]
        exact s4 _ _ nc (e6 _ _ nc hc)
    · obtain ⟨out, rest, e1, e2, e3, e4, e5, e6⟩ := hP
      have le := e3.length_eq
      rw [List.length_append] at le
      have hr0 : rest = [] := List.eq_nil_of_length_eq_zero (by omega)
      rw [hr0, List.append_nil] at e3
      exact q _ D out e5 e6 nD0 nDp.symm e1 e3
theorem scName : FnScope ["_law_pot_here", "_law_letters", "_law_turn"] ["_law_pot_here"] (defScope sName) :=
  ⟨rfl, rfl, rfl, by decide +kernel, rfl, by decide +kernel, by decide +kernel⟩
def spNm : Sp := fun vs H Q _ => ∃ p : Addr, vs = [.ref p] ∧ PotAt H p ∧
  ∀ H' (x : Str), PotAt H' p → But p H H' → nameV (.str x) = true → Q (.str x) H'
theorem ok_name {f fD : Addr} {fd fdD : FuncData} {k : Nat} (F : Fun K "_law_name" "_law_name" sName f fd)
    (FD : Fun K "_law_draw" "_law_draw" sDraw fD fdD) (bD : Binds K fdD ["_law_pot_here", "_law_many"] [])
    (gD : mg "_law_draw" = some (.ref fD)) (md : mg "divmod" = none) (mr : mg "range" = none) :
    FnOk P w K mg base CX0 (k + 2) f fd ["_law_pot_here"] spNm := by
  have GD : FnOk P w K mg base CX0 (k + 1) fD fdD ["_law_pot_here", "_law_many"] spDraw := ok_draw FD md
  refine F.ok scName (fun vs H Q E h => ?_) (fun cdv A outer s H vs Q E hr h => ?_)
  · obtain ⟨a, rfl, _⟩ := h
    rfl
  · obtain ⟨p, rfl, hp, q⟩ := h
    refine ⟨_, pss_cons (ps_set (i := 1) scName.nd rfl (.inr rfl) pe_str)
      (pss_one (ps_ret (pe_join pe_str (pe_lc (own := [("_law_turn", 2)]) (g := gName 2) (tt := tYes) rfl scName.nd
        (pi_range1 rfl mr (pa_cons (pe_ix ix_list (pe_lst (pa_cons pe_int (pa_cons pe_int (pa_cons pe_int pa_nil))))
          (pe_call GD hr (by rfl) gD FD.kp bD .nil pass0 (pa_cons (pv 0) (pa_cons pe_int pa_nil))) (fun _ _ => rfl)) pa_nil))
        (blkOk_by (own := [("_law_turn", 2)]) (N := ["_law_pot_here", "_law_letters", "_law_turn"]) (sc := defScope sName) (by decide +kernel))
        (fun _ _ _ _ _ => pg_name (i := 2) scName.nd rfl (Or.inl rfl)) (fun _ _ _ _ _ => pts_nil)
        (fun _ _ _ _ _ => pe_ix ix_str (pv 1) (pe_call GD hr (by rfl) gD FD.kp bD .nil pass0 (pa_cons (pv 0) (pa_cons pe_int pa_nil))) (fun _ _ => rfl)))))), ?_⟩
    refine ⟨⟨_, rfl⟩, (by decide : 3 ≤ sizeLine), fun l nl => ?_⟩
    have nlp : p ≠ l := by
      obtain ⟨_, _, e, _⟩ := hp
      exact ne_of_none e nl
    refine ⟨.ref p, rfl, p, 3, rfl, hp.same (same_new nl), by decide, by decide, fun H2 d2 b1 b2 hp2 s2 => ?_⟩
    have hl : H2 l = some (.lst [.int 1, .int 2, .int 8]) := s2 _ _ nlp.symm upd_same
    obtain ⟨n, hn, n0, n1⟩ : ∃ n : Int, atI [V.int 1, V.int 2, V.int 8] d2 = some (.int n) ∧ 1 ≤ n ∧ n ≤ 8 := by
      have : d2 = 0 ∨ d2 = 1 ∨ d2 = 2 := by omega
      rcases this with rfl | rfl | rfl
      · exact ⟨1, rfl, by decide, by decide⟩
      · exact ⟨2, rfl, by decide, by decide⟩
      · exact ⟨8, rfl, by decide, by decide⟩
    refine ⟨l, _, d2, .int n, rfl, rfl, .inl (.inl hl), hn, n, rfl, by omega, by omega, fun D nD => ?_⟩
    have nDp : p ≠ D := by
      obtain ⟨_, _, e, _⟩ := hp2
      exact ne_of_none e nD
    have bt : But p H H2 := (But.of_same (same_new nl)).trans s2
    refine lc_range (lo := 0) (n := n.toNat) (fun i H3 => ∃ ys : List Str, H3 D = some (.lst (ys.map V.str)) ∧ ys.length = i ∧ (∀ y ∈ ys, ∃ c, c ∈ az ∧ y = ⟨#[c]⟩) ∧ PotAt H3 p ∧ But p H2 H3)
      ⟨[], upd_same, rfl, fun y hy => (nomatch hy), hp2.same (same_new nD), But.of_same (same_new nD)⟩ (fun i H3 hi hP => ?_) (fun H3 hP => ?_)
    · obtain ⟨ys, e1, e2, e3, e4, e5⟩ := hP
      refine ⟨rfl, _, rfl, .ref p, rfl, p, 26, rfl, e4, by decide, by decide, fun H4 d c1 c2 hp4 s4 => ?_⟩
      obtain ⟨c, hc, hm⟩ := atI_some (L := ("abcdefghijklmnopqrstuvwxyz" : Str).cps.toList) c1 (by
        have : ("abcdefghijklmnopqrstuvwxyz" : Str).cps.toList.length = 26 := by decide +kernel
        omega)
      refine ⟨_, d, c, rfl, rfl, (by decide +kernel : ("abcdefghijklmnopqrstuvwxyz" : Str).length ≤ sizeLine), hc, _, s4 _ _ nDp.symm e1, ?_, ?_⟩
      · rw [List.length_map]
        exact sz1 (by omega)
      · refine ⟨ys ++ [⟨#[c]⟩], ?_, ?_, ?_, ?_, ?_⟩
        · rw [upd_same, List.map_append]
          rfl
        · rw [List.length_append, e2]
          rfl
        · intro y hy
          rcases List.mem_append.mp hy with z | z
          · exact e3 y z
          · exact ⟨c, hm, List.mem_singleton.mp z⟩
        · obtain ⟨r, g, e, h⟩ := hp4
          exact ⟨r, g, by rw [upd_ne nDp]; exact e, h⟩
        · intro b o nb hb
          rw [upd_ne (ne_of_none hb nD)]
          exact s4 b o nb (e5 b o nb hb)
    · obtain ⟨ys, e1, e2, e3, e4, e5⟩ := hP
      obtain ⟨j1, j2⟩ := join_az ys e3
      refine ⟨_, D, ys, rfl, rfl, .inl (.inl (.inl e1)), ?_, ?_⟩
      · have : ∀ zs : List Str, (∀ y ∈ zs, ∃ c, c ∈ az ∧ y = ⟨#[c]⟩) → (zs.map (·.length)).sum = zs.length := by
          intro zs
          induction zs with
          | nil => intro _; rfl
          | cons y r ih =>
            intro hy
            obtain ⟨c, _, h1⟩ := hy y (List.mem_cons_self ..)
            have h2 := ih fun z hz => hy z (List.mem_cons_of_mem _ hz)
            simp only [List.map_cons, List.sum_cons, List.length_cons, h2]
            have h3 : y.length = 1 := by
              rw [h1]
              rfl
            omega
        have h1 := this ys e3
        have h2 : ("" : Str).length = 0 := by decide +kernel
        rw [h2]
        omega
      · refine q _ _ e4 (bt.trans e5) ?_
        show ((decide (1 ≤ (Txt.join "" ys).length) && decide ((Txt.join "" ys).length ≤ 8)) && (Txt.join "" ys).cps.toList.all inAz) = true
        rw [decide_eq_true (by omega : 1 ≤ (Txt.join "" ys).length), decide_eq_true (by omega : (Txt.join "" ys).length ≤ 8), Bool.true_and, Bool.true_and, List.all_eq_true]
        intro c hc
        exact decide_eq_true (j2 c hc)
end
end Lw
/-! Rows of a hierarchy: names and superclasses. -/
namespace Kv
open PySem PySem.Spec PyProof.Rows L2
abbrev Row2 := Str × List Str
def fsts (rows : List Row2) : List Str := rows.map (·.1)
/-- each row is right behind the rows ahead of it -/
def Valid (rows : List Row2) : Prop := ∀ (i : Nat) (n : Str) (ss : List Str), rows[i]? = some (n, ss) →
  nameV (.str n) = true ∧ n ∉ fsts (rows.take i) ∧ ss.Nodup ∧ ∀ s ∈ ss, s ∈ fsts (rows.take i)
theorem valid_nil : Valid [] := fun i n ss h => by simp at h
theorem Valid.snoc {rows : List Row2} {n : Str} {ss : List Str} (v : Valid rows) (h1 : nameV (.str n) = true)
    (h2 : n ∉ fsts rows) (h3 : ss.Nodup) (h4 : ∀ s ∈ ss, s ∈ fsts rows) : Valid (rows ++ [(n, ss)]) := by
  intro i m ts h
  by_cases hi : i < rows.length
  · rw [List.getElem?_append_left hi] at h
    rw [List.take_append_of_le_length (by omega)]
    exact v i m ts h
  · have hi2 : i = rows.length := by
      have := (List.getElem?_eq_some_iff.mp h).1
      rw [List.length_append] at this
      have h1 : [(n, ss)].length = 1 := rfl
      omega
    subst hi2
    rw [List.getElem?_append_right (Nat.le_refl _), Nat.sub_self] at h
    cases h
    rw [List.take_append_of_le_length (Nat.le_refl _), List.take_length]
    exact ⟨h1, h2, h3, h4⟩
def RowAt (H : Hp) (v : V) (r : Row2) : Prop := ∃ t s, v = .ref t ∧ H t = some (.tup [.str r.1, .ref s]) ∧ H s = some (.tup (r.2.map V.str))
def RowsAre (H : Hp) : List V → List Row2 → Prop := Paired (RowAt H)
theorem RowAt.same {H H' : Hp} (s : Same H H') {v : V} {r : Row2} (h : RowAt H v r) : RowAt H' v r := by
  obtain ⟨t, u, e, h1, h2⟩ := h
  exact ⟨t, u, e, s _ _ h1, s _ _ h2⟩
theorem RowsAre.same {H H' : Hp} (s : Same H H') {vs : List V} {rows : List Row2} (h : RowsAre H vs rows) : RowsAre H' vs rows :=
  Paired.mapP h fun _ _ z => z.same s
/-- what is no list stays through a draw -/
theorem tup_but {H H' : Hp} {p t : Addr} {xs : List V} (hp : PotAt H p) (b : But p H H') (h : H t = some (.tup xs)) : H' t = some (.tup xs) := by
  obtain ⟨r, g, e, _⟩ := hp
  exact b _ _ (ne_of h e (by intro z; cases z)) h
theorem RowAt.but {H H' : Hp} {p : Addr} (hp : PotAt H p) (b : But p H H') {v : V} {r : Row2} (h : RowAt H v r) : RowAt H' v r := by
  obtain ⟨t, u, e, h1, h2⟩ := h
  exact ⟨t, u, e, tup_but hp b h1, tup_but hp b h2⟩
theorem RowsAre.but {H H' : Hp} {p : Addr} (hp : PotAt H p) (b : But p H H') {vs : List V} {rows : List Row2} (h : RowsAre H vs rows) : RowsAre H' vs rows :=
  Paired.mapP h fun _ _ z => z.but hp b
theorem RowsAre.length {H : Hp} {vs : List V} {rows : List Row2} (h : RowsAre H vs rows) : vs.length = rows.length := Paired.length h
theorem RowsAre.snoc {H : Hp} : ∀ {vs : List V} {rows : List Row2} {v : V} {r : Row2}, RowsAre H vs rows → RowAt H v r → RowsAre H (vs ++ [v]) (rows ++ [r])
  | _, _, _, _, .nil, h => .cons h .nil
  | _, _, _, _, .cons a b, h => .cons a (RowsAre.snoc b h)
theorem RowsAre.get {H : Hp} : ∀ {vs : List V} {rows : List Row2} {i : Nat} {v : V}, RowsAre H vs rows → vs[i]? = some v → ∃ r, rows[i]? = some r ∧ RowAt H v r
  | _, _, _, _, .nil, e => by simp at e
  | _, _, 0, _, .cons a _, e => by
    simp at e
    subst e
    exact ⟨_, rfl, a⟩
  | _, _, i + 1, v, .cons _ b, e => by
    obtain ⟨r, h1, h2⟩ := RowsAre.get (i := i) (v := v) b (by simpa using e)
    exact ⟨r, by simpa using h1, h2⟩
theorem RowAt.wr {H : Hp} {R : Addr} {xs : List V} {o : HO} (h : H R = some (.lst xs)) {v : V} {r : Row2} (a : RowAt H v r) : RowAt (upd H R o) v r := by
  obtain ⟨t, u, e, h1, h2⟩ := a
  exact ⟨t, u, e, by rw [upd_ne (ne_of h1 h (by intro z; cases z))]; exact h1, by rw [upd_ne (ne_of h2 h (by intro z; cases z))]; exact h2⟩
theorem RowsAre.wr {H : Hp} {R : Addr} {xs : List V} {o : HO} (h : H R = some (.lst xs)) {vs : List V} {rows : List Row2} (a : RowsAre H vs rows) : RowsAre (upd H R o) vs rows :=
  Paired.mapP a fun _ _ z => z.wr h
theorem fsts_snoc (rows : List Row2) (n : Str) (ss : List Str) : fsts (rows ++ [(n, ss)]) = fsts rows ++ [n] := by
  unfold fsts
  rw [List.map_append]
  rfl
/-! ### permuted texts -/
def unStr : V → Option Str
  | .str x => some x
  | _ => none
theorem unStr_map : ∀ ns : List Str, (ns.map V.str).filterMap unStr = ns
  | [] => rfl
  | n :: r => by
    show n :: (r.map V.str).filterMap unStr = n :: r
    rw [unStr_map r]
theorem map_unStr : ∀ ys : List V, (∀ y ∈ ys, ∃ x, y = .str x) → ys = (ys.filterMap unStr).map V.str
  | [], _ => rfl
  | y :: r, h => by
    obtain ⟨x, rfl⟩ := h y (List.mem_cons_self ..)
    have ih := map_unStr r fun z hz => h z (List.mem_cons_of_mem _ hz)
    show V.str x :: r = V.str x :: (r.filterMap unStr).map V.str
    rw [← ih]
theorem perm_strs {ys : List V} {ns : List Str} (h : ys.Perm (ns.map V.str)) : ∃ ms : List Str, ys = ms.map V.str ∧ ms.Perm ns := by
  refine ⟨ys.filterMap unStr, map_unStr ys fun y hy => ?_, ?_⟩
  · obtain ⟨x, _, e⟩ := List.mem_map.mp (h.mem_iff.mp hy)
    exact ⟨x, e.symm⟩
  · have := h.filterMap unStr
    rw [unStr_map] at this
    exact this
/-! ### letters that are left -/
theorem inV_strs (y : Str) : ∀ xs : List Str, inV (.str y) (xs.map V.str) = decide (y ∈ xs)
  | [] => rfl
  | x :: r => by
    have ih := inV_strs y r
    show (eqV (.str x) (.str y) || inV (.str y) (r.map V.str)) = _
    rw [ih]
    show ((x == y) || decide (y ∈ r)) = decide (y ∈ x :: r)
    by_cases e : x = y
    · subst e
      simp
    · have e2 : (x == y) = false := beq_eq_false_iff_ne.mpr e
      rw [e2, Bool.false_or]
      by_cases h : y ∈ r
      · rw [decide_eq_true h, decide_eq_true (List.mem_cons_of_mem _ h)]
      · rw [decide_eq_false h, decide_eq_false (fun z => by
          rcases List.mem_cons.mp z with z | z
          · exact e z.symm
          · exact h z)]
theorem flats : ∀ xs : List Str, (xs.map V.str).all flatV = true
  | [] => rfl
  | x :: r => by
    show (flatV (.str x) && (r.map V.str).all flatV) = true
    rw [flats r]
    rfl
theorem filter_one {α : Type} [DecidableEq α] (f : α) : ∀ {L : List α}, L.Nodup → L.length ≤ (L.filter fun y => decide (y ≠ f)).length + 1
  | [], _ => Nat.zero_le _
  | x :: r, h => by
    obtain ⟨h1, h2⟩ := List.nodup_cons.mp h
    by_cases e : x = f
    · subst e
      have e2 : r.filter (fun y => decide (y ≠ x)) = r := List.filter_eq_self.mpr fun y hy => decide_eq_true fun z => h1 (z ▸ hy)
      rw [List.filter_cons_of_neg (by simp), e2]
      exact Nat.le_refl _
    · have ih := filter_one f h2
      rw [List.filter_cons_of_pos (by simpa using e), List.length_cons, List.length_cons]
      omega
theorem filter_left {α : Type} [DecidableEq α] : ∀ (F : List α) {L : List α}, L.Nodup → L.length ≤ (L.filter fun y => decide (y ∉ F)).length + F.length
  | [], L, h => by
    have : L.filter (fun y => decide (y ∉ ([] : List α))) = L := List.filter_eq_self.mpr fun y _ => by simp
    rw [this]
    exact Nat.le_add_right _ _
  | f :: F, L, h => by
    have ih := filter_left F h
    have h2 : (L.filter fun y => decide (y ∉ F)).Nodup := h.filter _
    have h3 := filter_one f h2
    have e : (L.filter fun y => decide (y ∉ F)).filter (fun y => decide (y ≠ f)) = L.filter fun y => decide (y ∉ f :: F) := by
      rw [List.filter_filter]
      refine List.filter_congr fun y _ => ?_
      by_cases a : y = f <;> by_cases b : y ∈ F <;> simp [a, b]
    rw [e] at h3
    rw [List.length_cons]
    omega
def letters : List Str := az.map fun c => ⟨#[c]⟩
theorem letters_nodup : letters.Nodup := by decide +kernel
theorem letters_len : letters.length = 26 := by decide +kernel
theorem letter_name : ∀ y ∈ letters, nameV (.str y) = true := by decide +kernel
theorem cut_take {xs : List V} {k : Nat} : cutV xs none (some (k : Int)) = xs.take k := by
  unfold cutV
  rw [HT.sIx_none, HT.sIx_nat, Nat.sub_zero, List.drop_zero]
  by_cases h : k ≤ xs.length
  · rw [Nat.min_eq_left h]
  · rw [Nat.min_eq_right (by omega), List.take_length, List.take_of_length_le (by omega)]
end Kv
namespace Lw
open PySem PySem.Spec PyProof.Rows L2 Kv
abbrev NNames : List Str := ["_law_pot_here", "_law_many", "_law_found", "_law_turn", "_law_drawn", "_law_free", "_law_letter"]
theorem scNames : FnScope NNames ["_law_pot_here", "_law_many"] (defScope sNames) :=
  ⟨rfl, rfl, rfl, by decide +kernel, rfl, by decide +kernel, by decide +kernel⟩
abbrev NKinds : List Str := ["_law_pot_here", "_law_most", "_law_rows", "_law_label", "_law_many", "_law_row"]
theorem scKinds : FnScope NKinds ["_law_pot_here", "_law_most"] (defScope sKinds) :=
  ⟨rfl, rfl, rfl, by decide +kernel, rfl, by decide +kernel, by decide +kernel⟩
section
variable {P : Program} {w : World} {K : PySem.W.Frag} {mg : Str → Option Value} {base : Heap}
def spNames : Sp := fun vs H Q _ => ∃ (p : Addr) (m : Nat), vs = [.ref p, .int m] ∧ PotAt H p ∧ m ≤ 25 ∧
  ∀ H' D (xs : List Str), PotAt H' p → But p H H' → H D = none → D ≠ p → H' D = some (.lst (xs.map V.str)) → xs.length = m → xs.Nodup →
    (∀ x ∈ xs, nameV (.str x) = true) → Q (.ref D) H'
theorem ok_names {f fN : Addr} {fd fdN : FuncData} {k : Nat} (F : Fun K "_law_names" "_law_names" sNames f fd)
    (FN : Fun K "_law_name" "_law_name" sName fN fdN) (bN : Binds K fdN ["_law_pot_here"] []) (gN : mg "_law_name" = some (.ref fN))
    (GN : FnOk P w K mg base CX0 (k + 2) fN fdN ["_law_pot_here"] spNm) (mr : mg "range" = none) :
    FnOk P w K mg base CX0 (k + 3) f fd ["_law_pot_here", "_law_many"] spNames := by
  refine F.ok scNames (fun vs H Q E h => ?_) (fun cdv A outer s H vs Q E hr h => ?_)
  · obtain ⟨a, m, rfl, _⟩ := h
    rfl
  · obtain ⟨p, m, rfl, hp, hm, q⟩ := h
    refine ⟨_, pss_cons (ps_set (i := 2) scNames.nd rfl (.inr rfl) (pe_lst pa_nil))
      (pss_cons (ps_for PassesOwn.never rfl (pi_range1 rfl mr (pa_cons (pv 1) pa_nil)) (pg_name (i := 3) scNames.nd rfl (.inl rfl))
        (pss_cons (ps_set (i := 4) scNames.nd rfl (.inl rfl) (pe_call GN hr (by rfl) gN FN.kp bN .nil pass0 (pa_cons (pv 0) pa_nil)))
        (pss_cons (ps_setLc (i := 5) (own := [("_law_letter", 6)]) (g := gName 6) (tt := tTest (tOp (rIn K true) (tVar 6) (tVar 2))) (te := tVar 6) rfl scNames.nd rfl rfl
            (sw_true rfl rfl rfl (by decide +kernel)) (pi_str pe_str)
            (blkOk_by (own := [("_law_letter", 6)]) (N := NNames) (sc := defScope sNames) (by decide +kernel))
            (fun _ _ _ _ _ => pg_name (i := 6) scNames.nd rfl (Or.inl rfl)) (fun _ _ _ _ _ => pts_one (pt_cmpR op_notIn_seq (pv 6) (pv 2) (by rfl)))
            (fun _ _ _ _ _ => pv 6))
        (pss_one (ps_expr (pe_bm PySem.F.plainAttrs_list PySem.F.slot_list_append PySem.F.type_list_append mt_append (pv 2)
          (pa_cons (pe_ifExp (pt_cmpR op_in_seq (pv 4) (pv 2) (by rfl)) (pe_ix ix_list (pv 5) pe_int (fun _ _ => rfl)) (pv 4)) pa_nil)))))))
      (pss_one (ps_ret (pv 2)))), ?_⟩
    refine ⟨(by decide : 0 ≤ sizeLine), fun D nD => ?_⟩
    have nDp : p ≠ D := by
      obtain ⟨_, _, e, _⟩ := hp
      exact ne_of_none e nD
    refine ⟨.int m, rfl, m, rfl, by omega, by omega, ?_⟩
    refine for_range (n := (m : Int).toNat) (fun i σ H3 => ∃ (y3 y4 y5 : Option V) (xs : List Str), σ = [some (.ref p), some (.int m), some (.ref D), y3, y4, y5, none] ∧ H3 D = some (.lst (xs.map V.str)) ∧
      xs.length = i ∧ xs.Nodup ∧ (∀ x ∈ xs, nameV (.str x) = true) ∧ PotAt H3 p ∧ But p H H3)
      ⟨none, none, none, [], rfl, upd_same, rfl, List.nodup_nil, fun x hx => (nomatch hx), hp.same (same_new nD), But.of_same (same_new nD)⟩ (fun i σ H3 hi hP => ?_) (fun σ H3 hP => ?_)
    · obtain ⟨y3, y4, y5, xs, rfl, e1, e2, e3, e4, e5, e6⟩ := hP
      have hi2 : i < m := by omega
      refine ⟨.ref p, rfl, p, rfl, e5, fun H4 x hp4 s4 hx => ?_⟩
      have d4 := s4 _ _ nDp.symm e1
      have b4 : But p H H4 := e6.trans s4
      refine ⟨_, rfl, fun L nL => ?_⟩
      have nLp : p ≠ L := by
        obtain ⟨_, _, e, _⟩ := hp4
        exact ne_of_none e nL
      have nLD : D ≠ L := ne_of_none d4 nL
      refine lc_it walk_str (fun j H5 => H5 = upd H4 L (.lst (((letters.take j).filter fun y => decide (y ∉ xs)).map V.str))) ?_ (fun _ _ _ _ => trivial) (fun j y H5 H6 hj hP hY => ?_) (fun H5 hP => ?_)
      · rfl
      · obtain ⟨rfl, c, hc, rfl⟩ := hY
        subst hP
        have hc2 : letters[j]? = some ⟨#[c]⟩ := by
          unfold letters az
          rw [List.getElem?_map, Array.getElem?_toList, hc]
          rfl
        refine ⟨rfl, .str ⟨#[c]⟩, rfl, .ref D, rfl, D, xs.map V.str, rfl, .inl (.inl (.inl (by rw [upd_ne nLD]; exact d4))), rfl, flats xs, _, rfl, ?_⟩
        show if (!inV (.str ⟨#[c]⟩) (xs.map V.str)) = true then _ else _
        rw [inV_strs]
        by_cases hz : (⟨#[c]⟩ : Str) ∈ xs
        · rw [decide_eq_true hz]
          refine iteF ?_
          rw [List.take_add_one, hc2, List.filter_append]
          show _ = upd H4 L (.lst ((_ ++ [(⟨#[c]⟩ : Str)].filter _).map V.str))
          rw [List.filter_cons_of_neg (by simpa using hz), List.filter_nil, List.append_nil]
        · rw [decide_eq_false hz]
          refine iteT ⟨.str ⟨#[c]⟩, rfl, _, upd_same, ?_, ?_⟩
          · rw [List.length_map]
            refine Nat.lt_of_le_of_lt (List.length_filter_le _ _) ?_
            rw [List.length_take]
            have := letters_len
            exact sz1 (by omega)
          · rw [upd_upd, List.take_add_one, hc2, List.filter_append]
            show _ = upd H4 L (.lst ((_ ++ [(⟨#[c]⟩ : Str)].filter _).map V.str))
            rw [List.filter_cons_of_pos (by simpa using hz), List.filter_nil, List.map_append]
            rfl
      · subst hP
        have e26 : letters.take ("abcdefghijklmnopqrstuvwxyz" : Str).cps.size = letters := by decide +kernel
        have L5 : (upd H4 L (.lst (((letters.take ("abcdefghijklmnopqrstuvwxyz" : Str).cps.size).filter fun y => decide (y ∉ xs)).map V.str))) D = some (.lst (xs.map V.str)) := by
          rw [upd_ne nLD]
          exact d4
        have p5 : PotAt (upd H4 L (.lst (((letters.take ("abcdefghijklmnopqrstuvwxyz" : Str).cps.size).filter fun y => decide (y ∉ xs)).map V.str))) p := hp4.same (same_new nL)
        refine ⟨.ref D, rfl, .inl ⟨rfl, _, .inl (.inl L5)⟩, .str x, rfl, .ref D, rfl, D, xs.map V.str, rfl, .inl (.inl (.inl L5)), rfl, flats xs, _, rfl, ?_⟩
        show if inV (.str x) (xs.map V.str) = true then _ else _
        rw [inV_strs]
        have fin : ∀ y : Str, y ∉ xs → nameV (.str y) = true → ∃ (y3' y4' y5' : Option V) (xs' : List Str), ([some (.ref p), some (.int m), some (.ref D), some (.int (0 + (i : Int))), some (.str x), some (.ref L), none] : List (Option V)) = [some (.ref p), some (.int m), some (.ref D), y3', y4', y5', none] ∧
            (upd (upd H4 L (.lst (((letters.take ("abcdefghijklmnopqrstuvwxyz" : Str).cps.size).filter fun y => decide (y ∉ xs)).map V.str))) D (.lst (xs.map V.str ++ [.str y]))) D = some (.lst (xs'.map V.str)) ∧
            xs'.length = i + 1 ∧ xs'.Nodup ∧ (∀ x ∈ xs', nameV (.str x) = true) ∧ PotAt (upd (upd H4 L (.lst (((letters.take ("abcdefghijklmnopqrstuvwxyz" : Str).cps.size).filter fun y => decide (y ∉ xs)).map V.str))) D (.lst (xs.map V.str ++ [.str y]))) p ∧
            But p H (upd (upd H4 L (.lst (((letters.take ("abcdefghijklmnopqrstuvwxyz" : Str).cps.size).filter fun y => decide (y ∉ xs)).map V.str))) D (.lst (xs.map V.str ++ [.str y]))) := by
          intro y hy1 hy2
          refine ⟨_, _, _, xs ++ [y], rfl, ?_, ?_, ?_, ?_, ?_, ?_⟩
          · rw [upd_same, List.map_append]
            rfl
          · rw [List.length_append, e2]
            rfl
          · rw [List.nodup_append]
            refine ⟨e3, List.pairwise_singleton _ _, fun a ha b hb => ?_⟩
            rw [List.mem_singleton.mp hb]
            rintro rfl
            exact hy1 ha
          · intro z hz
            rcases List.mem_append.mp hz with z1 | z1
            · exact e4 z z1
            · rw [List.mem_singleton.mp z1]
              exact hy2
          · obtain ⟨r, g, e, h⟩ := p5
            exact ⟨r, g, by rw [upd_ne nDp]; exact e, h⟩
          · intro b o nb hb
            rw [upd_ne (ne_of_none hb nD)]
            exact same_new nL _ _ (b4 b o nb hb)
        have szD : (xs.map V.str).length < sizeLine := by
          rw [List.length_map]
          exact sz1 (by omega)
        by_cases hz : x ∈ xs
        · rw [decide_eq_true hz]
          have lf := filter_left xs letters_nodup
          rw [letters_len] at lf
          obtain ⟨y, r, hyr⟩ : ∃ y r, (letters.filter fun y => decide (y ∉ xs)) = y :: r := by
            cases hc : letters.filter fun y => decide (y ∉ xs) with
            | nil =>
              rw [hc] at lf
              have : ([] : List Str).length = 0 := rfl
              omega
            | cons y r => exact ⟨y, r, rfl⟩
          have hym : y ∈ letters ∧ decide (y ∉ xs) = true := List.mem_filter.mp (by rw [hyr]; exact List.mem_cons_self ..)
          have F5 : atI (((letters.take ("abcdefghijklmnopqrstuvwxyz" : Str).cps.size).filter fun y => decide (y ∉ xs)).map V.str) 0 = some (.str y) := by
            rw [e26, hyr]
            exact atI_nat (j := 0) rfl
          refine iteT ⟨.ref L, rfl, L, _, 0, .str y, rfl, rfl, .inl (.inl upd_same), F5, D, _, _, rfl, rfl, L5, szD, ?_⟩
          exact fin y (of_decide_eq_true hym.2) (letter_name y hym.1)
        · rw [decide_eq_false hz]
          refine iteF ⟨.str x, rfl, D, _, _, rfl, rfl, L5, szD, ?_⟩
          exact fin x hz hx
    · obtain ⟨y3, y4, y5, xs, rfl, e1, e2, e3, e4, e5, e6⟩ := hP
      exact ⟨.ref D, rfl, q _ D xs e5 e6 nD nDp.symm e1 (by omega) e3 e4⟩
end
end Lw
namespace Lw
open PySem PySem.Spec PyProof.Rows L2 Kv
section
variable {P : Program} {w : World} {K : PySem.W.Frag} {mg : Str → Option Value} {base : Heap}
def spKinds : Sp := fun vs H Q _ => ∃ (p : Addr) (most : Nat), vs = [.ref p, .int most] ∧ PotAt H p ∧ 1 ≤ most ∧ most ≤ 20 ∧
  ∀ H' R (us : List V) (rows : List Row2), PotAt H' p → But p H H' → H R = none → R ≠ p → H' R = some (.lst us) → RowsAre H' us rows → Valid rows →
    1 ≤ rows.length → rows.length ≤ most → Q (.ref R) H'
theorem ok_kinds {f fD fN fM : Addr} {fd fdD fdN fdM : FuncData} {k : Nat} (F : Fun K "_law_kinds" "_law_kinds" sKinds f fd)
    (FD : Fun K "_law_draw" "_law_draw" sDraw fD fdD) (bD : Binds K fdD ["_law_pot_here", "_law_many"] []) (gD : mg "_law_draw" = some (.ref fD))
    (FN : Fun K "_law_names" "_law_names" sNames fN fdN) (bN : Binds K fdN ["_law_pot_here", "_law_many"] []) (gN : mg "_law_names" = some (.ref fN))
    (FM : Fun K "_law_mixed" "_law_mixed" sMixed fM fdM) (bM : Binds K fdM ["_law_pot_here", "_law_some"] []) (gM : mg "_law_mixed" = some (.ref fM))
    (GD : FnOk P w K mg base CX0 (k + 1) fD fdD ["_law_pot_here", "_law_many"] spDraw)
    (GN : FnOk P w K mg base CX0 (k + 3) fN fdN ["_law_pot_here", "_law_many"] spNames)
    (GM : FnOk P w K mg base CX0 (k + 2) fM fdM ["_law_pot_here", "_law_some"] (spMixed K)) (mT : mg "tuple" = none) :
    FnOk P w K mg base CX0 (k + 4) f fd ["_law_pot_here", "_law_most"] spKinds := by
  refine F.ok scKinds (fun vs H Q E h => ?_) (fun cdv A outer s H vs Q E hr h => ?_)
  · obtain ⟨a, m, rfl, _⟩ := h
    rfl
  · obtain ⟨p, most, rfl, hp, m1, m2, q⟩ := h
    have hrD := hr.mono (by omega : k + 1 ≤ k + 3)
    have hrM := hr.mono (by omega : k + 2 ≤ k + 3)
    refine ⟨_, pss_cons (ps_set (i := 2) scKinds.nd rfl (.inl rfl) (pe_lst pa_nil))
      (pss_cons (ps_for PassesOwn.never rfl (pi_list (pe_call GN hr (by rfl) gN FN.kp bN .nil pass0 (pa_cons (pv 0) (pa_cons (pe_op op_add pe_int
            (pe_call GD hrD (by rfl) gD FD.kp bD .nil pass0 (pa_cons (pv 0) (pa_cons (pv 1) pa_nil)))) pa_nil)))) (pg_name (i := 3) scKinds.nd rfl (.inl rfl))
        (pss_cons (ps_set (i := 4) scKinds.nd rfl (.inl rfl) (pe_ix ix_list (pe_lst (pa_cons pe_int (pa_cons pe_int (pa_cons pe_int (pa_cons pe_int (pa_cons pe_int (pa_cons pe_int pa_nil)))))))
            (pe_call GD hrD (by rfl) gD FD.kp bD .nil pass0 (pa_cons (pv 0) (pa_cons pe_int pa_nil))) (fun _ _ => rfl)))
        (pss_one (ps_expr (pe_bm PySem.F.plainAttrs_list PySem.F.slot_list_append PySem.F.type_list_append mt_append (pv 2)
          (pa_cons (pe_tup (pa_cons (pv 3) (pa_cons (pe_callTy call_tuple_of (by rfl) mT (by decide +kernel) (pa_cons (pe_slice sl_list
            (pe_call GM hrM (by rfl) gM FM.kp bM .nil pass0 (pa_cons (pv 0) (pa_cons
              (pe_lc (own := [("_law_row", 5)]) (g := gName 5) (tt := tYes) (te := tOp (rIxT K) (tVar 5) (tC (.int 0))) rfl scKinds.nd (pi_list (pv 2))
                (blkOk_by (own := [("_law_row", 5)]) (N := NKinds) (sc := defScope sKinds) (by decide +kernel))
                (fun _ _ _ _ _ => pg_name (i := 5) scKinds.nd rfl (Or.inl rfl)) (fun _ _ _ _ _ => pts_nil)
                (fun _ _ _ _ _ => pe_ix ix_tup (pv 5) pe_int (fun _ _ => rfl))) pa_nil)))
            po_none (po_some (pv 4))) pa_nil)) pa_nil))) pa_nil))))))
      (pss_one (ps_ret (pv 2)))), ?_⟩
    refine ⟨(by decide : 0 ≤ sizeLine), fun R nR => ?_⟩
    have nRp : p ≠ R := by
      obtain ⟨_, _, e, _⟩ := hp
      exact ne_of_none e nR
    have hpR := hp.same (same_new (o := .lst []) nR)
    refine ⟨.ref p, rfl, .ref p, rfl, .int most, rfl, p, most, rfl, hpR, by omega, by omega, fun H1 d a1 a2 hp1 s1 => ?_⟩
    refine ⟨_, _, rfl, rfl, p, (1 + d).toNat, ?_, hp1, by omega, fun H2 N xs hp2 s2 nN neN eN lN ndN nmN => ?_⟩
    · show [V.ref p, V.int (1 + d)] = _
      rw [Int.toNat_of_nonneg (by omega)]
    have R1 := s1 _ _ nRp.symm upd_same
    have nNR : R ≠ N := ne_of_none R1 nN
    have R2 := s2 _ _ nRp.symm R1
    have b2 : But p H H2 := (But.of_same (same_new nR)).trans (s1.trans s2)
    refine ⟨N, rfl, ⟨_, .inl (.inl eN)⟩, ?_⟩
    refine for_list (xs := xs.map V.str) (fun i σ H3 => ∃ (y3 y4 : Option V) (us : List V) (rows : List Row2), σ = [some (.ref p), some (.int most), some (.ref R), y3, y4, none] ∧ H3 R = some (.lst us) ∧
        RowsAre H3 us rows ∧ Valid rows ∧ fsts rows = xs.take i ∧ H3 N = some (.lst (xs.map V.str)) ∧ PotAt H3 p ∧ But p H H3)
      ⟨none, none, [], [], rfl, R2, .nil, valid_nil, rfl, eN, hp2, b2⟩ (fun i σ H3 _ hP => ?_) (fun i v σ H3 hv hP => ?_) (fun σ H3 hP => ?_)
    · obtain ⟨_, _, _, _, _, _, _, _, _, e, _⟩ := hP
      exact .inl (.inl e)
    · obtain ⟨y3, y4, us, rows, rfl, eR, era, eva, efs, eN3, hp3, b3⟩ := hP
      rw [List.getElem?_map] at hv
      obtain ⟨x, hx, rfl⟩ : ∃ x, xs[i]? = some x ∧ v = .str x := by
        cases hz : xs[i]? with
        | none =>
          rw [hz] at hv
          cases hv
        | some x =>
          rw [hz] at hv
          exact ⟨x, rfl, (Option.some.inj hv).symm⟩
      have hil : i < xs.length := (List.getElem?_eq_some_iff.mp hx).1
      have lr : rows.length = i := by
        have := congrArg List.length efs
        unfold fsts at this
        rw [List.length_map, List.length_take] at this
        omega
      refine ⟨(by decide : 6 ≤ sizeLine), fun l nl => ?_⟩
      have t1 := same_new (o := .lst [.int 0, .int 1, .int 1, .int 2, .int 2, .int 3]) nl
      have nlp : p ≠ l := by
        obtain ⟨_, _, e, _⟩ := hp3
        exact ne_of_none e nl
      refine ⟨.ref p, rfl, p, 6, rfl, hp3.same t1, by decide, by decide, fun H5 d5 c1 c2 hp5 s5 => ?_⟩
      have el := s5 _ _ nlp.symm upd_same
      obtain ⟨n, hn, n3⟩ : ∃ n : Nat, atI [V.int 0, V.int 1, V.int 1, V.int 2, V.int 2, V.int 3] d5 = some (.int n) ∧ n ≤ 3 := by
        have : d5 = 0 ∨ d5 = 1 ∨ d5 = 2 ∨ d5 = 3 ∨ d5 = 4 ∨ d5 = 5 := by omega
        rcases this with rfl | rfl | rfl | rfl | rfl | rfl
        · exact ⟨0, rfl, by decide⟩
        · exact ⟨1, rfl, by decide⟩
        · exact ⟨1, rfl, by decide⟩
        · exact ⟨2, rfl, by decide⟩
        · exact ⟨2, rfl, by decide⟩
        · exact ⟨3, rfl, by decide⟩
      have R5 : H5 R = some (.lst us) := s5 _ _ nRp.symm (t1 _ _ eR)
      have N5 : H5 N = some (.lst (xs.map V.str)) := s5 _ _ neN (t1 _ _ eN3)
      have era5 : RowsAre H5 us rows := (era.same t1).but (hp3.same t1) s5
      have b5 : But p H H5 := (b3.new nl).trans s5
      refine ⟨l, _, d5, .int n, rfl, rfl, .inl (.inl el), hn, ?_⟩
      refine ⟨.ref R, rfl, .inl ⟨rfl, _, .inl (.inl R5)⟩, .str x, rfl, .ref p, rfl, .ref R, rfl, R, rfl, ⟨_, .inl (.inl R5)⟩, fun D nD => ?_⟩
      have nDR : R ≠ D := ne_of_none R5 nD
      refine lc_list (xs := us) (fun j H6 => H6 = upd H5 D (.lst (((fsts rows).take j).map V.str))) rfl (fun j H6 _ hP => ?_) (fun j v H6 hv hP => ?_) (fun H6 hP => ?_)
      · subst hP
        exact .inl (.inl (by rw [upd_ne nDR]; exact R5))
      · subst hP
        obtain ⟨r, hr1, t, sA, rfl, et, es⟩ := era5.get hv
        have jl : j < us.length := (List.getElem?_eq_some_iff.mp hv).1
        refine ⟨rfl, .ref t, rfl, t, [.str r.1, .ref sA], 0, .str r.1, rfl, rfl, .inl (.inl (by rw [upd_ne (ne_of_none et nD)]; exact et)), atI_nat (j := 0) rfl, _, upd_same, ?_, ?_⟩
        · rw [List.length_map, List.length_take]
          have := era5.length
          exact sz1 (by
            have : xs.length ≤ 25 := by omega
            omega)
        · have hf : (fsts rows)[j]? = some r.1 := by
            unfold fsts
            rw [List.getElem?_map, hr1]
            rfl
          rw [upd_upd, List.take_add_one, hf, List.map_append]
          rfl
      · subst hP
        have ln := era5.length
        have etk : (fsts rows).take us.length = fsts rows := List.take_of_length_le (by
          unfold fsts
          rw [List.length_map]
          omega)
        rw [etk]
        have t6 := same_new (o := .lst ((fsts rows).map V.str)) nD
        refine ⟨p, D, (fsts rows).map V.str, rfl, hp5.same t6, .inl (.inl upd_same), by
          unfold fsts
          rw [List.length_map, List.length_map]
          omega, fun H7 D2 ys hp7 s7 nD2 neD2 eD2 pm => ?_⟩
        obtain ⟨ms, rfl, pm2⟩ := perm_strs pm
        refine ⟨.int n, rfl, n, rfl, D2, _, rfl, .inl (.inl eD2), fun c nc => ?_⟩
        rw [cut_take] at *
        refine ⟨c, _, rfl, .inl ⟨.inl (.inl upd_same), fun u nu => ?_⟩⟩
        refine ⟨(by decide : 2 ≤ sizeLine), fun t nt => ?_⟩
        have z1 := same_new (o := .lst ((ms.map V.str).take n)) nc
        have z2 := same_new (o := .tup ((ms.map V.str).take n)) nu
        have z3 := same_new (o := .tup [.str x, .ref u]) nt
        have R7 : H7 R = some (.lst us) := s7 _ _ nRp.symm (t6 _ _ R5)
        have R8 := z3 _ _ (z2 _ _ (z1 _ _ R7))
        have N8 := z3 _ _ (z2 _ _ (z1 _ _ (s7 _ _ neN (t6 _ _ N5))))
        have U8 := z3 _ _ (upd_same (H := upd H7 c (.lst ((ms.map V.str).take n))) (a := u) (o := .tup ((ms.map V.str).take n)))
        have era7 : RowsAre H7 us rows := (era5.same t6).but (hp5.same t6) s7
        refine ⟨R, us, .ref t, rfl, rfl, R8, sz1 (by omega), ?_⟩
        have hxr : x ∉ fsts rows := by
          rw [efs]
          intro hz
          obtain ⟨j, hj, e⟩ := List.getElem_of_mem hz
          rw [List.getElem_take] at e
          have hj2 : j < i := by
            rw [List.length_take] at hj
            omega
          have hxi : xs[i] = x := (List.getElem?_eq_some_iff.mp hx).2
          exact (List.pairwise_iff_getElem.mp ndN j i (by omega) hil hj2) (by rw [e, hxi])
        have hnd : (fsts rows).Nodup := by
          rw [efs]
          exact ndN.sublist (List.take_sublist _ _)
        refine ⟨_, _, us ++ [.ref t], rows ++ [(x, ms.take n)], rfl, upd_same, ?_, ?_, ?_, ?_, ?_, ?_⟩
        · refine RowsAre.snoc ((((era7.same z1).same z2).same z3).wr R8) (RowAt.wr R8 ⟨t, u, rfl, upd_same, ?_⟩)
          rw [List.map_take]
          exact U8
        · refine eva.snoc (nmN x (List.mem_of_getElem? hx)) hxr ((pm2.nodup_iff.mpr hnd).sublist (List.take_sublist _ _)) ?_
          intro z hz
          exact pm2.mem_iff.mp (List.mem_of_mem_take hz)
        · rw [fsts_snoc, efs, List.take_add_one, hx]
          rfl
        · rw [upd_ne nNR.symm]
          exact N8
        · obtain ⟨r, g, e, h⟩ := hp7
          exact ⟨r, g, by rw [upd_ne nRp]; exact z3 _ _ (z2 _ _ (z1 _ _ e)), h⟩
        · intro b o nb hb
          rw [upd_ne (ne_of_none hb nR)]
          exact z3 _ _ (z2 _ _ (z1 _ _ (s7 _ _ nb (t6 _ _ (b5 b o nb hb)))))
    · obtain ⟨y3, y4, us, rows, rfl, eR, era, eva, efs, eN3, hp3, b3⟩ := hP
      have lr : rows.length = xs.length := by
        have := congrArg List.length efs
        unfold fsts at this
        rw [List.length_map, List.length_take, List.length_map] at this
        omega
      exact ⟨.ref R, rfl, q _ R us rows hp3 b3 nR nRp.symm eR era eva (by omega) (by omega)⟩
end
end Lw
/-! for i, x in enumerate(t), t a tuple. -/
namespace Kv
open PySem PySem.Spec PyProof.Rows L2
open AutoSeq1 (wpAny_loadPart')
/-- a tuple's iterator, an enumerate over it -/
abbrev tupIt (t : Addr) : Obj := { cls := .type "tuple_iterator", data := .fields #[.ref t, .int 0 0] }
abbrev enumOf (it : Addr) : Obj := { cls := .type "enumerate", data := .fields #[.none, .bool false, .ref it, rawInt 0, .none, .none] }
set_option maxHeartbeats 1000000 in
theorem enum_new (t : Addr) (items : Array Value) (n : Nat) (dct : Option Addr) (sl : Array (Option Value)) :
    Meets (Builtin.«enumerate.__new__» ⟨[.type "enumerate", .ref t], []⟩) (fun _ R s =>
      s.heap.get? t = some { cls := .type "tuple", dict := dct, data := .seq items n, slots := sl } ∧
      R (.ok (.ret (.ref (s.heap.push (tupIt t)).objs.size)))
        { s with heap := (s.heap.push (tupIt t)).push (enumOf s.heap.objs.size) }) :=
  .of_wp fun prog w A R s h => by
    obtain ⟨hp, g, d, tk, os⟩ := s
    obtain ⟨hl, h⟩ := h
    have hsub := sub_enumerate
    have hT : Heap.IsTuple (Shared.heap ⟨hp, g, d, tk, os⟩) t items :=
      ⟨_, hl, rfl, n, rfl⟩
    wp_walk using wpAny_loadPart' hl
    refine wpAny_stack_any fun st =>
      wpAny_pure ?_
    split
    · rename_i c _ _ _ _ _
      cases (c == Value.type "enumerate") <;>
        (wp_walk using wpAny_loadPart' hl, wpAny_pyIter_tuple hT
         exact ⟨_, rfl, h⟩)
    · wp_walk using wpAny_loadPart' hl, wpAny_pyIter_tuple hT
      exact ⟨_, rfl, h⟩
section
variable {prog : Program} {w : World} {A : Around} {E : Value → Shared → Prop} {s : Shared}
theorem enum_call {t : Addr} {items : Array Value} {Q : Value → Shared → Prop} (hL : s.heap.IsTuple t items)
    (h : ∀ h2, IsEnum h2 (s.heap.objs.size + 1) s.heap.objs.size 0 .none → h2.IsTupleIter s.heap.objs.size t 0 →
      (∀ b o, s.heap.get? b = some o → h2.get? b = some o) →
      Q (.ref (s.heap.objs.size + 1)) { s with heap := h2 }) :
    wpAny (model prog w) A (call (.type "enumerate") [.ref t]) Q E s := by
  obtain ⟨⟨c, dct, dt, sl⟩, hl, hc, n, hd⟩ := hL
  obtain rfl : c = .type "tuple" := hc
  obtain rfl : dt = .seq items n := hd
  refine callType_new F.called_enumerate (by decide) (F.typeCall_enumerate_1 _) (F.newCall_enumerate_1 _)
    (fun obj => F.args_object_init_2 obj _) F.entry_enumerate_new (enum_new t items n dct sl) ⟨hl, ?_⟩
  have hz : (s.heap.push (tupIt t)).objs.size = s.heap.objs.size + 1 := Heap.size_push ..
  show _ ∧ _
  rw [hz]
  have he : IsEnum ((s.heap.push (tupIt t)).push (enumOf s.heap.objs.size)) (s.heap.objs.size + 1) s.heap.objs.size 0 .none := by
    have q := Heap.get?_push_size (s.heap.push (tupIt t)) (o := enumOf s.heap.objs.size) rfl
    rw [hz] at q
    exact q
  refine ⟨⟨_, he, rfl⟩, h _ he ?_ ?_⟩
  · exact ⟨_, Heap.get?_push_of_some _ (Heap.get?_push_size _ rfl), rfl, rfl⟩
  · intro b o x
    exact Heap.get?_push_of_some _ (Heap.get?_push_of_some _ x)
end
/-- the tuple at a as it stands, its items in new pairs -/
def Itet (K : PySem.W.Frag) (a : Addr) : It :=
  ⟨fun i H => ∃ (xs : List V) (x : V), SqT K H a xs ∧ xs[i]? = some x,
   fun i H v H' => ∃ T x, v = .ref T ∧ H T = none ∧ H' = upd H T (.tup [.int (i : Nat), x]) ∧
     ∀ xs, SqT K H a xs → xs[i]? = some x,
   fun i H => ∃ xs : List V, SqT K H a xs ∧ xs.length = i⟩
theorem turn_enumT {P : Program} {w : World} {K : PySem.W.Frag} {elts : List Expr} {kk : Nat} {tpos : Pos} (a e it : Addr) :
    Turn P w K (.Tuple elts kk tpos) (Itet K a) [e, it] e
      (fun i h => (∃ old, IsEnum h e it ((i : Nat) : Int) old) ∧ h.IsTupleIter it a i ∧ e ≠ it ∧ a ≠ it ∧ a ≠ e) where
  mem := by simp
  obj := by
    intro i h st b hb
    obtain ⟨⟨old, he⟩, ⟨o, ho, hc, hd⟩, _⟩ := st
    rcases List.mem_cons.mp hb with z | z
    · rw [z]
      exact ⟨_, he, fun v q => nomatch q⟩
    · rw [List.mem_singleton.mp z]
      exact ⟨o, ho, fun v q => by rw [hd] at q; cases q⟩
  keep := by
    intro i h h2 st k
    obtain ⟨⟨old, he⟩, hi, ne⟩ := st
    exact ⟨⟨old, k e (by simp) _ he⟩, hi.at fun o q => k it (by simp) o q, ne⟩
  item := by
    intro X hP hw hK hc i pins s σ H E I hf st hg
    subst hP hw hK
    obtain ⟨⟨old, he⟩, hit, hne, nai, nae⟩ := st
    obtain ⟨xs, x, hq, hx⟩ := hg
    obtain ⟨its, rv, p, hz⟩ := I.tuple hq
    obtain ⟨u, hu, ru⟩ := rv.get hx
    have lte : e < s.heap.objs.size := Heap.lt_size he
    have lti : it < s.heap.objs.size := by
      obtain ⟨_, q, _⟩ := hit
      exact Heap.lt_size q
    have hil : i < its.toArray.size := by
      rw [List.size_toArray]
      exact (List.getElem?_eq_some_iff.mp hu).1
    refine wpAny_pyNext_enum_itemD (Draws.tuple (A := X.A.in1) (I.ok.hd hc) it a nai its.toArray) he ⟨hit, p⟩ hil hne ?_ ?_
    · intro z
      rcases List.mem_cons.mp z with y | y
      · exact hne y
      · exact nae (List.mem_singleton.mp y).symm
    intro y h2 tk hy ho hit2 hT hsz hk
    obtain rfl : y = u := by
      have hy2 : its.toArray[i]? = some y := hy
      have hu2 : its.toArray[i]? = some u := by simpa using hu
      rw [hu2] at hy2
      exact (Option.some.inj hy2).symm
    refine ⟨_, rfl, wpAny_letOwnedTupleGo_enum (s := { s with heap := h2, toks := tk + 1 }) ho ?_⟩
    intro h3 he3 sb
    have hT3 : h3.get? s.heap.objs.size = some { cls := .type "tuple", data := .seq #[.int i tk, y] } :=
      (sb.2 _ (Nat.ne_of_gt lte)).trans hT
    have new : ObjOk X.prog X.w (upd H s.heap.objs.size (.tup [.int (i : Nat), x])) h3 s.heap.objs.size (.tup [.int (i : Nat), x]) := by
      refine ⟨(by decide : 2 ≤ sizeLine), [.int i tk, y], .cons ⟨_, rfl⟩ (.cons ru .nil), ?_⟩
      exact ⟨_, hT3, rfl, _, rfl⟩
    have I1 : Inv X pins σ (upd H s.heap.objs.size (.tup [.int (i : Nat), x])) { s with heap := h3, toks := tk + 1 } := by
      refine I.turnedNew (ch := [e, it]) ?_ hf (Nat.le_refl _) new
      intro b ob hb q
      have nb1 : b ≠ e := fun z => hb (by simp [z])
      have nb2 : b ≠ it := fun z => hb (by simp [z])
      exact (sb.2 b nb1).trans (hk b ob nb1 nb2 q)
    refine ⟨.ref s.heap.objs.size, _, I1, rfl, ⟨_, x, rfl, I.hok.fresh (Nat.le_refl _), rfl, ?_⟩, ⟨⟨y, ?_⟩, ?_, hne, nai, nae⟩, ?_⟩
    · intro ys hys
      rw [I.tuple_inj hys hq]
      exact hx
    · have e1 : ((i + 1 : Nat) : Int) = (i : Int) + 1 := by omega
      rw [e1]
      exact he3
    · exact hit2.1.at fun o q => (sb.2 it (Ne.symm hne)).trans q
    · intro b hb
      have lb : b < s.heap.objs.size := by
        rcases List.mem_cons.mp hb with z | z
        · rw [z]
          exact lte
        · rw [List.mem_singleton.mp z]
          exact lti
      rw [upd_ne (Nat.ne_of_lt lb)]
      exact (hf b hb).1
  done := by
    intro X hP hw hK hc i pins s σ H E I hf st hg
    subst hP hw hK
    obtain ⟨⟨old, he⟩, hit, hne, nai, nae⟩ := st
    obtain ⟨xs, hq, hx⟩ := hg
    obtain ⟨its, rv, p, hz⟩ := I.tuple hq
    obtain ⟨f0, f1, f2, f3, f4, f5⟩ := hf it (by simp)
    have hl := rv.length
    have ei : its.toArray.size = i := by
      rw [List.size_toArray, ← hl]
      exact hx
    refine wpAny_pyNext_enum_endD (Draws.tuple (A := X.A.in1) (I.ok.hd hc) it a nai its.toArray) he ⟨?_, p⟩ ?_
    · rw [ei]
      exact hit
    · intro h2 eb
      exact ⟨rfl, I.turned (t' := s.toks) (fun b o hb q => eb b o hb q) f0 f1 f3 f4 f5⟩
  self := by
    intro A i s Q E st h
    obtain ⟨⟨_, he⟩, _⟩ := st
    exact wpAny_pyIter_enum he h
/-- enumerate of a list or of a tuple -/
def iEnumS (K : PySem.W.Frag) (ta : TA) : TI := fun σ H R => ta σ H fun vs H1 =>
  (∃ a xs, vs = [.ref a] ∧ SqL K H1 a xs ∧ R (Ite K a) H1) ∨ ∃ a xs, vs = [.ref a] ∧ SqT K H1 a xs ∧ R (Itet K a) H1
theorem pi_enumS {X : Cx} {e : Expr} {ta : TA} {p pos tpos : Pos} {elts : List Expr} {kk : Nat} (hg : Gl X "enumerate")
    (hm : X.mg "enumerate" = none) (ha : PA X [e] ta) (hs : starEach [e] X.env = [(false, eval e X.env)] := by rfl) :
    PI X (.Tuple elts kk tpos) (.Call (.Name "enumerate" p) [e] [] pos) (iEnumS X.K ta) := by
  constructor
  intro pins s σ H R I h
  refine Call_ (ld_blt I hg hm boot_enumerate (PyProof.Rows.callWith_type1
    (thn (ha.run pos pins s σ H _ I h) fun us s1 ⟨vs, H1, I1, r1, q1⟩ => ?_) hs rfl))
  have fresh : ∀ b ∈ [s1.heap.objs.size + 1, s1.heap.objs.size], FpOk X pins H1 b := by
    intro b hb
    have le : s1.heap.objs.size ≤ b := by
      rcases List.mem_cons.mp hb with z | z
      · rw [z]
        exact Nat.le_succ _
      · rw [List.mem_singleton.mp z]
        exact Nat.le_refl _
    exact I1.fpOk le (I1.hok.fresh le)
  rcases q1 with ⟨a, xs, rfl, hq, q⟩ | ⟨a, xs, rfl, hq, q⟩
  · cases r1 with
    | cons r rr =>
      cases rr
      cases r
      obtain ⟨its, rv, pl, hz⟩ := I1.list hq
      refine call_enumerate_list pl.isList fun h2 he hit hsz hk => wpAny_pyIter_enum he ?_
      exact ⟨s1.heap.objs.size + 1, [s1.heap.objs.size + 1, s1.heap.objs.size], _, _, H1, rfl, I1.kept (t' := s1.toks) hk,
        turn_enum a (s1.heap.objs.size + 1) s1.heap.objs.size, ⟨⟨.none, he⟩, hit, Nat.succ_ne_self _⟩, fresh, q⟩
  · cases r1 with
    | cons r rr =>
      cases rr
      cases r
      obtain ⟨its, rv, pl, hz⟩ := I1.tuple hq
      have lta : a < s1.heap.objs.size := by
        obtain ⟨o, ho, _⟩ := pl
        exact Heap.lt_size ho
      refine enum_call pl fun h2 he hit hk => wpAny_pyIter_enum he ?_
      exact ⟨s1.heap.objs.size + 1, [s1.heap.objs.size + 1, s1.heap.objs.size], _, _, H1, rfl, I1.kept (t' := s1.toks) hk,
        turn_enumT a (s1.heap.objs.size + 1) s1.heap.objs.size,
        ⟨⟨.none, he⟩, hit, Nat.succ_ne_self _, Nat.ne_of_lt lta, Nat.ne_of_lt (Nat.lt_succ_of_lt lta)⟩, fresh, q⟩
end Kv
/-! The classes above a class, as a hierarchy keeps them. -/
namespace Kv
open PySem PySem.Spec PyProof.Rows L2
/-- a dict of texts, each with True -/
def flag (as : List Str) : List (Key × V) := as.map fun a => (Sum.inr a, V.bl true)
def addA (acc : List Str) (a : Str) : List Str := if a ∈ acc then acc else acc ++ [a]
def addAll (acc as : List Str) : List Str := as.foldl addA acc
abbrev Tab := List (Str × List Str)
def look (tab : Tab) (x : Str) : List Str := (tab.lookup x).getD []
def ancOf (tab : Tab) (n : Str) (ss : List Str) : List Str := ss.foldl (fun acc s => addAll acc (look tab s)) [n]
def tabKeys (tab : Tab) : List Str := tab.map (·.1)
def ancTab (rows : List Row2) : Tab := rows.foldl (fun tab r => tab ++ [(r.1, ancOf tab r.1 r.2)]) []
theorem keyr_ne {a b : Str} (h : a ≠ b) : ¬ ((Sum.inr a : Key) = Sum.inr b) := fun z => h (Sum.inr.inj z)
theorem valV_flag (a : Str) : ∀ as : List Str, valV (flag as) (Sum.inr a : Key) = if a ∈ as then some (.bl true) else none
  | [] => rfl
  | x :: r => by
    have ih := valV_flag a r
    show valV (((Sum.inr x : Key), V.bl true) :: flag r) _ = _
    by_cases e : x = a
    · subst e
      rw [valV_pos rfl, if_pos (List.mem_cons_self ..)]
    · rw [valV_neg (keyr_ne e), ih]
      by_cases h : a ∈ r
      · rw [if_pos h, if_pos (List.mem_cons_of_mem _ h)]
      · rw [if_neg h, if_neg (fun z => by
          rcases List.mem_cons.mp z with z | z
          · exact e z.symm
          · exact h z)]
theorem flag_map (a : Str) : ∀ as : List Str, (flag as).map (fun kv => if kv.1 = (Sum.inr a : Key) then (kv.1, V.bl true) else kv) = flag as
  | [] => rfl
  | x :: r => by
    show (if (Sum.inr x : Key) = Sum.inr a then ((Sum.inr x : Key), V.bl true) else ((Sum.inr x : Key), V.bl true)) :: (flag r).map _ = ((Sum.inr x : Key), V.bl true) :: flag r
    rw [flag_map a r]
    split <;> rfl
theorem put_flag (acc : List Str) (a : Str) : putK (flag acc) (Sum.inr a : Key) (.bl true) = flag (addA acc a) := by
  unfold putK addA
  rw [valV_any, valV_flag]
  by_cases h : a ∈ acc
  · rw [if_pos h, if_pos h]
    rw [if_pos (by rfl : (some (V.bl true)).isSome = true)]
    exact flag_map a acc
  · rw [if_neg h, if_neg h]
    show (if (none : Option V).isSome = true then _ else _) = _
    rw [if_neg (by simp)]
    unfold flag
    rw [List.map_append]
    rfl
theorem flag_len (as : List Str) : (flag as).length = as.length := List.length_map _
theorem addA_nodup {acc : List Str} {a : Str} (h : acc.Nodup) : (addA acc a).Nodup := by
  unfold addA
  split
  · exact h
  · rename_i hn
    rw [List.nodup_append]
    refine ⟨h, List.pairwise_singleton _ _, fun x hx y hy => ?_⟩
    rw [List.mem_singleton.mp hy]
    rintro rfl
    exact hn hx
theorem mem_addA {acc : List Str} {a x : Str} : x ∈ addA acc a ↔ x ∈ acc ∨ x = a := by
  unfold addA
  split
  · rename_i h
    constructor
    · exact Or.inl
    · rintro (z | rfl)
      · exact z
      · exact h
  · rw [List.mem_append, List.mem_singleton]
theorem addAll_snoc (acc as : List Str) (a : Str) : addAll acc (as ++ [a]) = addA (addAll acc as) a := by
  unfold addAll
  rw [List.foldl_append]
  rfl
theorem addAll_take {as : List Str} {i : Nat} {a : Str} (acc : List Str) (h : as[i]? = some a) : addAll acc (as.take (i + 1)) = addA (addAll acc (as.take i)) a := by
  rw [List.take_add_one, h]
  exact addAll_snoc ..
theorem addAll_nodup : ∀ {as acc : List Str}, acc.Nodup → (addAll acc as).Nodup
  | [], _, h => h
  | a :: r, acc, h => addAll_nodup (as := r) (addA_nodup h)
theorem mem_addAll {x : Str} : ∀ {as acc : List Str}, x ∈ addAll acc as ↔ x ∈ acc ∨ x ∈ as
  | [], acc => by
    show x ∈ acc ↔ _
    simp
  | a :: r, acc => by
    show x ∈ addAll (addA acc a) r ↔ _
    rw [mem_addAll, mem_addA, List.mem_cons]
    constructor
    · rintro ((z | z) | z)
      · exact Or.inl z
      · exact Or.inr (Or.inl z)
      · exact Or.inr (Or.inr z)
    · rintro (z | z | z)
      · exact Or.inl (Or.inl z)
      · exact Or.inl (Or.inr z)
      · exact Or.inr z
/-- the classes found behind i superclasses -/
def ancAt (tab : Tab) (n : Str) (ss : List Str) (i : Nat) : List Str := ancOf tab n (ss.take i)
theorem ancAt_next {tab : Tab} {n : Str} {ss : List Str} {i : Nat} {s : Str} (h : ss[i]? = some s) : ancAt tab n ss (i + 1) = addAll (ancAt tab n ss i) (look tab s) := by
  unfold ancAt ancOf
  rw [List.take_add_one, h, List.foldl_append]
  rfl
theorem ancOf_nodup {tab : Tab} {n : Str} {ss : List Str} : (ancOf tab n ss).Nodup := by
  unfold ancOf
  have : ∀ (l acc : List Str), acc.Nodup → (l.foldl (fun acc s => addAll acc (look tab s)) acc).Nodup := by
    intro l
    induction l with
    | nil => intro acc h; exact h
    | cons a r ih => intro acc h; exact ih _ (addAll_nodup h)
  exact this ss [n] (List.pairwise_singleton _ _)
theorem mem_ancOf {tab : Tab} {n x : Str} {ss : List Str} : x ∈ ancOf tab n ss ↔ x = n ∨ ∃ s ∈ ss, x ∈ look tab s := by
  have : ∀ (l acc : List Str), x ∈ l.foldl (fun acc s => addAll acc (look tab s)) acc ↔ x ∈ acc ∨ ∃ s ∈ l, x ∈ look tab s := by
    intro l
    induction l with
    | nil => intro acc; simp
    | cons a r ih =>
      intro acc
      show x ∈ r.foldl _ (addAll acc (look tab a)) ↔ _
      rw [ih, mem_addAll]
      constructor
      · rintro ((z | z) | ⟨s, hs, z⟩)
        · exact Or.inl z
        · exact Or.inr ⟨a, List.mem_cons_self .., z⟩
        · exact Or.inr ⟨s, List.mem_cons_of_mem _ hs, z⟩
      · rintro (z | ⟨s, hs, z⟩)
        · exact Or.inl (Or.inl z)
        · rcases List.mem_cons.mp hs with rfl | hs
          · exact Or.inl (Or.inr z)
          · exact Or.inr ⟨s, hs, z⟩
  unfold ancOf
  rw [this, List.mem_singleton]
/-- each entry holds known classes -/
def TabOk (tab : Tab) : Prop := ∀ (x : Str) (as : List Str), (x, as) ∈ tab → as.Nodup ∧ ∀ a ∈ as, a ∈ tabKeys tab
theorem mem_look {tab : Tab} : ∀ {x : Str}, x ∈ tabKeys tab → (x, look tab x) ∈ tab := by
  induction tab with
  | nil => intro x h; cases h
  | cons p r ih =>
    intro x h
    obtain ⟨y, as⟩ := p
    unfold look
    rw [List.lookup_cons]
    by_cases e : x = y
    · subst e
      rw [beq_self_eq_true]
      exact List.mem_cons_self ..
    · rw [beq_eq_false_iff_ne.mpr e]
      refine List.mem_cons_of_mem _ (ih ?_)
      rcases List.mem_cons.mp h with z | z
      · exact absurd z e
      · exact z
theorem look_none {tab : Tab} : ∀ {x : Str}, x ∉ tabKeys tab → look tab x = [] := by
  induction tab with
  | nil => intro x _; rfl
  | cons p r ih =>
    intro x h
    obtain ⟨y, as⟩ := p
    have h1 : x ≠ y := fun z => h (z ▸ List.mem_cons_self ..)
    have h2 := ih (x := x) fun z => h (List.mem_cons_of_mem _ z)
    unfold look at h2 ⊢
    rw [List.lookup_cons, beq_eq_false_iff_ne.mpr h1]
    exact h2
theorem look_sub {tab : Tab} (ok : TabOk tab) {x a : Str} (h : a ∈ look tab x) : a ∈ tabKeys tab := by
  by_cases hx : x ∈ tabKeys tab
  · exact (ok _ _ (mem_look hx)).2 a h
  · rw [look_none hx] at h
    cases h
theorem nodup_le {L F : List Str} (h : L.Nodup) (s : ∀ x ∈ L, x ∈ F) : L.length ≤ F.length := by
  have := filter_left F h
  have e : L.filter (fun y => decide (y ∉ F)) = [] := List.filter_eq_nil_iff.mpr fun y hy => by simpa using s y hy
  rw [e] at this
  have z : ([] : List Str).length = 0 := rfl
  omega
theorem TabOk.snoc {tab : Tab} (ok : TabOk tab) (n : Str) (ss : List Str) : TabOk (tab ++ [(n, ancOf tab n ss)]) := by
  intro x as h
  have ek : tabKeys (tab ++ [(n, ancOf tab n ss)]) = tabKeys tab ++ [n] := by
    unfold tabKeys
    rw [List.map_append]
    rfl
  rw [ek]
  rcases List.mem_append.mp h with z | z
  · obtain ⟨h1, h2⟩ := ok x as z
    exact ⟨h1, fun a ha => List.mem_append_left _ (h2 a ha)⟩
  · have := List.mem_singleton.mp z
    cases this
    refine ⟨ancOf_nodup, fun a ha => ?_⟩
    rcases mem_ancOf.mp ha with rfl | ⟨s, _, hs⟩
    · exact List.mem_append_right _ (List.mem_singleton.mpr rfl)
    · exact List.mem_append_left _ (look_sub ok hs)
theorem tabOk_nil : TabOk [] := fun x as h => by cases h
theorem ancTab_snoc (rows : List Row2) (r : Row2) : ancTab (rows ++ [r]) = ancTab rows ++ [(r.1, ancOf (ancTab rows) r.1 r.2)] := by
  unfold ancTab
  rw [List.foldl_append]
  rfl
theorem ancTab_take {rows : List Row2} {i : Nat} {r : Row2} (h : rows[i]? = some r) : ancTab (rows.take (i + 1)) = ancTab (rows.take i) ++ [(r.1, ancOf (ancTab (rows.take i)) r.1 r.2)] := by
  rw [List.take_add_one, h]
  exact ancTab_snoc ..
theorem ancTab_ok (rows : List Row2) : ∀ i, TabOk (ancTab (rows.take i))
  | 0 => tabOk_nil
  | i + 1 => by
    cases h : rows[i]? with
    | none =>
      rw [List.take_add_one, h]
      show TabOk (ancTab (rows.take i ++ []))
      rw [List.append_nil]
      exact ancTab_ok rows i
    | some r =>
      rw [ancTab_take h]
      exact (ancTab_ok rows i).snoc _ _
theorem ancTab_keys (rows : List Row2) : tabKeys (ancTab rows) = fsts rows := by
  have : ∀ (l : List Row2) (tab : Tab), tabKeys (l.foldl (fun tab r => tab ++ [(r.1, ancOf tab r.1 r.2)]) tab) = tabKeys tab ++ fsts l := by
    intro l
    induction l with
    | nil =>
      intro tab
      show tabKeys tab = tabKeys tab ++ []
      rw [List.append_nil]
    | cons r l ih =>
      intro tab
      show tabKeys (l.foldl _ (tab ++ [(r.1, ancOf tab r.1 r.2)])) = _
      rw [ih]
      unfold tabKeys fsts
      rw [List.map_append, List.append_assoc]
      rfl
  exact this rows []
/-! ### in the heap -/
def EntryAt (H : Hp) (kv : Key × V) (na : Str × List Str) : Prop := kv.1 = Sum.inr na.1 ∧ ∃ d, kv.2 = .ref d ∧ H d = some (.dK (flag na.2))
def Entries (H : Hp) : List (Key × V) → Tab → Prop := Paired (EntryAt H)
theorem Entries.mono {H H' : Hp} {kvs : List (Key × V)} {tab : Tab} (h : Entries H kvs tab) (k : ∀ d as, H d = some (.dK (flag as)) → H' d = some (.dK (flag as))) : Entries H' kvs tab :=
  Paired.mapP h fun _ _ ⟨e1, d, e2, e3⟩ => ⟨e1, d, e2, k d _ e3⟩
theorem Entries.look {H : Hp} : ∀ {kvs : List (Key × V)} {tab : Tab} {x : Str}, Entries H kvs tab → x ∈ tabKeys tab → ∃ d, valV kvs (Sum.inr x : Key) = some (.ref d) ∧ H d = some (.dK (flag (look tab x)))
  | _, _, _, .nil, h => by cases h
  | p :: _, (y, as) :: r, x, .cons ⟨e1, d, e2, e3⟩ t, h => by
    by_cases e : x = y
    · subst e
      refine ⟨d, ?_, ?_⟩
      · rw [valV_pos e1, e2]
      · unfold Kv.look
        rw [List.lookup_cons, beq_self_eq_true]
        exact e3
    · have hx : x ∈ tabKeys r := by
        rcases List.mem_cons.mp h with z | z
        · exact absurd z e
        · exact z
      obtain ⟨d2, g1, g2⟩ := Entries.look t hx
      refine ⟨d2, ?_, ?_⟩
      · rw [valV_neg (fun z => e (Sum.inr.inj (e1.symm.trans z)).symm)]
        exact g1
      · unfold Kv.look at g2 ⊢
        rw [List.lookup_cons, beq_eq_false_iff_ne.mpr e]
        exact g2
theorem Entries.none {H : Hp} : ∀ {kvs : List (Key × V)} {tab : Tab} {x : Str}, Entries H kvs tab → x ∉ tabKeys tab → valV kvs (Sum.inr x : Key) = none
  | _, _, _, .nil, _ => rfl
  | p :: _, (y, as) :: r, x, .cons ⟨e1, d, e2, e3⟩ t, h => by
    rw [valV_neg (fun z => h (by
      have : y = x := Sum.inr.inj (e1.symm.trans z)
      rw [this]
      exact List.mem_cons_self ..))]
    exact Entries.none t fun z => h (List.mem_cons_of_mem _ z)
theorem Entries.snoc {H : Hp} : ∀ {kvs : List (Key × V)} {tab : Tab} {kv : Key × V} {na : Str × List Str}, Entries H kvs tab → EntryAt H kv na → Entries H (kvs ++ [kv]) (tab ++ [na])
  | _, _, _, _, .nil, h => .cons h .nil
  | _, _, _, _, .cons a b, h => .cons a (Entries.snoc b h)
theorem Entries.length {H : Hp} {kvs : List (Key × V)} {tab : Tab} (h : Entries H kvs tab) : kvs.length = tab.length := Paired.length h
/-- the places -/
def placeKV (ns : List Str) : List (Key × V) := ns.zipIdx.map fun p => (Sum.inr p.1, V.int p.2)
theorem place_len (ns : List Str) : (placeKV ns).length = ns.length := by
  unfold placeKV
  rw [List.length_map, List.length_zipIdx]
theorem place_snoc (ns : List Str) (n : Str) : placeKV (ns ++ [n]) = placeKV ns ++ [(Sum.inr n, .int ns.length)] := by
  unfold placeKV
  rw [List.zipIdx_append, List.map_append]
  simp
theorem place_val (x : Str) : ∀ (ns : List Str), (valV (placeKV ns) (Sum.inr x : Key)).isSome = decide (x ∈ ns) := by
  intro ns
  unfold placeKV
  have : ∀ (l : List Str) (k : Nat), (valV ((l.zipIdx k).map fun p => ((Sum.inr p.1 : Key), V.int p.2)) (Sum.inr x : Key)).isSome = decide (x ∈ l) := by
    intro l
    induction l with
    | nil => intro k; rfl
    | cons y r ih =>
      intro k
      rw [List.zipIdx_cons, List.map_cons]
      by_cases e : y = x
      · subst e
        rw [valV_pos rfl, decide_eq_true (List.mem_cons_self ..)]
        rfl
      · rw [valV_neg (keyr_ne e), ih]
        by_cases h : x ∈ r
        · rw [decide_eq_true h, decide_eq_true (List.mem_cons_of_mem _ h)]
        · rw [decide_eq_false h, decide_eq_false (fun z => by
            rcases List.mem_cons.mp z with z | z
            · exact e z.symm
            · exact h z)]
  exact this ns 0
end Kv
namespace Lw
open PySem PySem.Spec PyProof.Rows L2 Kv
abbrev NAre : List Str := ["value", "known", "name"]
theorem scAre : FnScope NAre ["value", "known"] (defScope sAre) :=
  ⟨rfl, rfl, rfl, by decide +kernel, rfl, by decide +kernel, by decide +kernel⟩
theorem scProb : FnScope ["row", "known", "name", "superclasses"] ["row", "known"] (defScope sProb) :=
  ⟨rfl, rfl, rfl, by decide +kernel, rfl, by decide +kernel, by decide +kernel⟩
theorem scAnc : FnScope ["name", "superclasses", "above", "found", "superclass", "ancestor"] ["name", "superclasses", "above"] (defScope sAnc) :=
  ⟨rfl, rfl, rfl, by decide +kernel, rfl, by decide +kernel, by decide +kernel⟩
section
variable {P : Program} {w : World} {K : PySem.W.Frag} {mg : Str → Option Value} {base : Heap}
def areV (kvs : List (Key × V)) (ss : List Str) : Bool := ss.all (fun x => (valV kvs (Sum.inr x : Key)).isSome) && decide (met ss ss.length = ss.length)
def spAre : Sp := fun vs H Q _ => ∃ (a d : Addr) (ss : List Str) (kvs : List (Key × V)), vs = [.ref a, .ref d] ∧ H a = some (.tup (ss.map V.str)) ∧ H d = some (.dK kvs) ∧ ss.length ≤ 100 ∧
  ∀ H', Same H H' → Q (.bl (areV kvs ss)) H'
theorem ok_are {f : Addr} {fd : FuncData} {k : Nat} (F : Fun K "are_superclasses" "are_superclasses" sAre f fd)
    (mi : mg "isinstance" = none) (mT : mg "tuple" = none) (ms : mg "str" = none) (ma : mg "all" = none) (ml : mg "len" = none) (mS : mg "set" = none) :
    FnOk P w K mg base CX0 (k + 1) f fd ["value", "known"] spAre := by
  refine F.ok scAre (fun vs H Q E h => ?_) (fun cdv A outer s H vs Q E hr h => ?_)
  · obtain ⟨a, d, ss, kvs, rfl, _⟩ := h
    rfl
  · obtain ⟨a, d, ss, kvs, rfl, ha, hd, hl, q⟩ := h
    have hu := hu_of hr
    refine ⟨_, pss_cons (ps_if (pt_not (pt_val (pe_callB call_isi (by rfl) mi (by decide +kernel) (pa_cons (pv 0)
          (pa_cons (pe_bltn (v := .ty "tuple") (by rfl) mT (by decide +kernel : bootBuiltins "tuple" = some (.type "tuple")) rfl) pa_nil))))) (pss_one (ps_ret pe_bl)) pss_nil)
      (pss_cons (ps_if (pt_not (pt_val (pe_callB (cr_all rfl) (by rfl) ma (by decide +kernel) (pa_cons
          (pe_lc (own := [("name", 2)]) (g := gName 2) (tt := tYes) (te := tAndV (tCB (rIsi K) (tCons (tVar 2) (tCons (tC (.ty "str")) tNil))) (tDIn (tVar 2) (tVar 1))) rfl scAre.nd (pi_tup (pv 0))
            (blkOk_by (own := [("name", 2)]) (N := NAre) (sc := defScope sAre) (by decide +kernel))
            (fun _ _ _ _ _ => pg_name (i := 2) scAre.nd rfl (Or.inl rfl)) (fun _ _ _ _ _ => pts_nil)
            (fun _ _ _ _ _ => pe_and (pe_callB call_isi (by rfl) mi (by decide +kernel) (pa_cons (pv 2)
              (pa_cons (pe_bltn (v := .ty "str") (by rfl) ms (by decide +kernel : bootBuiltins "str" = some (.type "str")) rfl) pa_nil)))
              (pe_one (pe_cmp (pc_din hu (pv 2) (pv 1)) rfl)))) pa_nil)))) (pss_one (ps_ret pe_bl)) pss_nil)
      (pss_one (ps_ret (pe_cmpR op_eq (pe_lenTexts rfl (by rfl) ml (by rfl) mS (pv 0)) (pe_callB call_len_seq (by rfl) ml PySem.boot_len (pa_cons (pv 0) pa_nil)) (nomark _))))), ?_⟩
    refine ⟨.ref a, rfl, .ref a, .ty "tuple", _, _, true, rfl, .ty "tuple", .base (.tup ha), kit_ty (by decide +kernel), true, rfl, iteF ?_⟩
    refine ⟨.ref a, rfl, a, rfl, ⟨_, .inl (.inl ha)⟩, fun D nD => ?_⟩
    have nDa : a ≠ D := ne_of_none ha nD
    have nDd : d ≠ D := ne_of_none hd nD
    refine lc_tup (xs := ss.map V.str) (fun i H3 => H3 = upd H D (.lst ((ss.take i).map fun x => .bl (valV kvs (Sum.inr x : Key)).isSome))) rfl (fun i H3 _ hP => ?_) (fun i v H3 hv hP => ?_) (fun H3 hP => ?_)
    · subst hP
      exact .inl (.inl (by rw [upd_ne nDa]; exact ha))
    · subst hP
      rw [List.getElem?_map] at hv
      obtain ⟨x, hx, rfl⟩ : ∃ x, ss[i]? = some x ∧ v = .str x := by
        cases hz : ss[i]? with
        | none =>
          rw [hz] at hv
          cases hv
        | some x =>
          rw [hz] at hv
          exact ⟨x, rfl, (Option.some.inj hv).symm⟩
      have hd2 : (upd H D (.lst ((ss.take i).map fun x => V.bl (valV kvs (Sum.inr x : Key)).isSome))) d = some (.dK kvs) := by
        rw [upd_ne nDd]
        exact hd
      refine ⟨rfl, .str x, rfl, .str x, .ty "str", _, _, true, rfl, .ty "str", .base (.str x), kit_ty (by decide +kernel), true, rfl, iteT ?_⟩
      refine ⟨.str x, rfl, .ref d, rfl, d, _, rfl, DGet.k (k := Sum.inr x) hd2, _, upd_same, ?_, ?_⟩
      · rw [List.length_map, List.length_take]
        exact sz1 (by omega)
      · rw [upd_upd, List.take_add_one, hx, List.map_append]
        rfl
    · subst hP
      have et : ss.take (ss.map V.str).length = ss := by
        rw [List.length_map, List.take_length]
      rw [et]
      have sD := same_new (o := .lst (ss.map fun x => V.bl (valV kvs (Sum.inr x : Key)).isSome)) nD
      refine ⟨D, ss.map fun x => (valV kvs (Sum.inr x : Key)).isSome, rfl, .inl (.inl (by rw [upd_same, List.map_map]; rfl)), _, rfl, ?_⟩
      rw [List.all_map]
      show if (!(ss.all (fun x => (valV kvs (Sum.inr x : Key)).isSome))) = true then _ else _
      cases hz : ss.all (fun x => (valV kvs (Sum.inr x : Key)).isSome) with
      | false =>
        refine iteT ?_
        have := q _ sD
        unfold areV at this
        rw [hz, Bool.false_and] at this
        exact this
      | true =>
        refine iteF ?_
        refine ⟨.ref a, rfl, a, ss, rfl, .inl (.inl (sD _ _ ha)), by omega, .ref a, rfl, a, ss.map V.str, rfl, .inr (.inl (.inl (sD _ _ ha))), rfl, ?_⟩
        have := q _ sD
        unfold areV at this
        rw [hz, Bool.true_and] at this
        rw [List.length_map]
        have e : decide (V.int (met ss ss.length : Nat) = V.int (ss.length : Nat)) = decide (met ss ss.length = ss.length) := by
          by_cases e : met ss ss.length = ss.length
          · rw [decide_eq_true e, e]
            exact decide_eq_true rfl
          · rw [decide_eq_false e, decide_eq_false (fun z => e (by
              have := V.int.inj z
              omega))]
        rw [e]
        exact this
def spProb : Sp := fun vs H Q _ => ∃ (t d : Addr) (r : Row2) (kvs : List (Key × V)), vs = [.ref t, .ref d] ∧ RowAt H (.ref t) r ∧ H d = some (.dK kvs) ∧
  nameV (.str r.1) = true ∧ valV kvs (Sum.inr r.1 : Key) = none ∧ (∀ x ∈ r.2, (valV kvs (Sum.inr x : Key)).isSome = true) ∧ r.2.Nodup ∧ r.2.length ≤ 100 ∧
  ∀ H', Same H H' → Q .non H'
theorem ok_prob {f fN fA : Addr} {fd fdN fdA : FuncData} {k : Nat} (F : Fun K "row_problem" "row_problem" sProb f fd)
    (FN : Fun K "is_name" "is_name" sIsName fN fdN) (bN : Binds K fdN ["value"] []) (gN : mg "is_name" = some (.ref fN))
    (FA : Fun K "are_superclasses" "are_superclasses" sAre fA fdA) (bA : Binds K fdA ["value", "known"] []) (gA : mg "are_superclasses" = some (.ref fA))
    (GN : FnOk P w K mg base CX0 (k + 1) fN fdN ["value"] (spName K)) (GA : FnOk P w K mg base CX0 (k + 1) fA fdA ["value", "known"] spAre)
    (mi : mg "isinstance" = none) (mT : mg "tuple" = none) (ml : mg "len" = none) :
    FnOk P w K mg base CX0 (k + 2) f fd ["row", "known"] spProb := by
  refine F.ok scProb (fun vs H Q E h => ?_) (fun cdv A outer s H vs Q E hr h => ?_)
  · obtain ⟨t, d, r, kvs, rfl, _⟩ := h
    rfl
  · obtain ⟨t, d, ⟨n, ss⟩, kvs, rfl, ⟨t', sA, e0, ht, hs⟩, hd, h1, h2, h3, h4, h5, q⟩ := h
    cases e0
    have hu := hu_of hr
    refine ⟨_, pss_cons (ps_if (PW.pt (pw_or (pt_not (pt_val (pe_callB call_isi (by rfl) mi (by decide +kernel) (pa_cons (pv 0)
          (pa_cons (pe_bltn (v := .ty "tuple") (by rfl) mT (by decide +kernel : bootBuiltins "tuple" = some (.type "tuple")) rfl) pa_nil)))))
          (pw_or1 (pt_cmpR op_ne (pe_callB call_len_seq (by rfl) ml PySem.boot_len (pa_cons (pv 0) pa_nil)) pe_int (nomark _))))) (pss_one (ps_ret pe_str)) pss_nil)
      (pss_cons (ps_asg (pv 0) (pg_tup (by rfl) (pgs_cons (pg_name (i := 2) scProb.nd rfl (.inl rfl)) (pgs_cons (pg_name (i := 3) scProb.nd rfl (.inl rfl)) pgs_nil))))
      (pss_cons (ps_if (pt_not (pt_val (pe_call GN hr (by rfl) gN FN.kp bN .nil pass0 (pa_cons (pv 2) pa_nil)))) (pss_one (ps_ret pe_str)) pss_nil)
      (pss_cons (ps_if (pt_cmp (pc_din hu (pv 2) (pv 1))) (pss_one (ps_ret pe_str)) pss_nil)
      (pss_cons (ps_if (pt_not (pt_val (pe_call GA hr (by rfl) gA FA.kp bA .nil pass0 (pa_cons (pv 3) (pa_cons (pv 1) pa_nil))))) (pss_one (ps_ret pe_str)) pss_nil)
      (pss_one (ps_ret pe_non)))))), ?_⟩
    refine ⟨.ref t, rfl, .ref t, .ty "tuple", _, _, true, rfl, .ty "tuple", .base (.tup ht), kit_ty (by decide +kernel), true, rfl, iteF ?_⟩
    refine ⟨.ref t, rfl, t, _, rfl, .inr (.inl (.inl ht)), rfl, _, rfl, ?_⟩
    show if (!decide (V.int 2 = V.int 2)) = true then _ else _
    rw [decide_eq_true rfl]
    refine iteF ?_
    refine ⟨.ref t, rfl, t, _, rfl, .inl (.inl ht), rfl, _, _, rfl, _, _, rfl, rfl, ?_⟩
    have gn : Good K H (.str n) := Good.str (name_sm h1)
    refine ⟨.str n, rfl, .str n, rfl, gn, fun H1 s1 => ⟨_, rfl, ?_⟩⟩
    rw [h1]
    refine iteF ?_
    refine ⟨.str n, rfl, .ref d, rfl, d, _, rfl, DGet.k (k := Sum.inr n) (s1 _ _ hd), _, rfl, ?_⟩
    rw [h2]
    refine iteF ?_
    refine ⟨.ref sA, rfl, .ref d, rfl, sA, d, ss, kvs, rfl, s1 _ _ hs, s1 _ _ hd, h5, fun H2 s2 => ⟨_, rfl, ?_⟩⟩
    have e : areV kvs ss = true := by
      unfold areV
      rw [Bool.and_eq_true, List.all_eq_true]
      exact ⟨h3, decide_eq_true (met_nodup h4 _ (Nat.le_refl _))⟩
    rw [e]
    exact iteF (q _ (s1.trans s2))
def spAnc : Sp := fun vs H Q _ => ∃ (n : Str) (a u : Addr) (ss : List Str) (kvs : List (Key × V)) (tab : Tab), vs = [.str n, .ref a, .ref u] ∧ H a = some (.tup (ss.map V.str)) ∧
  H u = some (.dK kvs) ∧ Entries H kvs tab ∧ TabOk tab ∧ tab.length ≤ 100 ∧ (∀ x ∈ ss, x ∈ tabKeys tab) ∧
  ∀ H' F, Same H H' → H F = none → H' F = some (.dK (flag (ancOf tab n ss))) → Q (.ref F) H'
theorem ok_anc {f : Addr} {fd : FuncData} {k : Nat} (F : Fun K "ancestors_of" "ancestors_of" sAnc f fd) :
    FnOk P w K mg base CX0 (k + 1) f fd ["name", "superclasses", "above"] spAnc := by
  refine F.ok scAnc (fun vs H Q E h => ?_) (fun cdv A outer s H vs Q E hr h => ?_)
  · obtain ⟨n, a, u, ss, kvs, tab, rfl, _⟩ := h
    rfl
  · obtain ⟨n, a, u, ss, kvs, tab, rfl, ha, hU, he, hok, hlen, hss, q⟩ := h
    have hu := hu_of hr
    refine ⟨_, pss_cons (ps_set (i := 3) scAnc.nd rfl (.inl rfl) (pe_disp (pps_cons (pv 0) pe_bl pps_nil) (by rfl) (by rfl) (fun z => by cases z) (by decide)))
      (pss_cons (ps_for PassesOwn.never rfl (pi_tup (pv 1)) (pg_name (i := 4) scAnc.nd rfl (.inl rfl))
        (pss_one (ps_lock (ps_for PassesOwn.never rfl (pi_keys (pe_dget hu (pv 2) (pv 4) (fun _ _ => rfl))) (pg_name (i := 5) scAnc.nd rfl (.inl rfl))
          (pss_one (ps_dput hu (pv 3) (pv 5) pe_bl rfl))))))
      (pss_one (ps_ret (pv 3)))), ?_⟩
    refine fun D nD => ⟨.str n, rfl, upd_same, [(Sum.inr n, .bl true)], rfl, (by decide : 1 ≤ 15), ?_⟩
    have sD := same_new2 (o := .dK []) (u := .dK (flag [n])) nD
    have nDu : u ≠ D := ne_of_none hU nD
    refine ⟨.ref a, rfl, a, rfl, ⟨_, .inl (.inl (sD _ _ ha))⟩, ?_⟩
    refine for_tup (xs := ss.map V.str) (fun i σ H3 => ∃ y4 y5 : Option V, σ = [some (.str n), some (.ref a), some (.ref u), some (.ref D), y4, y5] ∧ H3 D = some (.dK (flag (ancAt tab n ss i))) ∧ Same H H3)
      ⟨none, none, rfl, upd_same, sD⟩ (fun i σ H3 _ hP => ?_) (fun i v σ H3 hv hP => ?_) (fun σ H3 hP => ?_)
    · obtain ⟨_, _, _, _, s3⟩ := hP
      exact .inl (.inl (s3 _ _ ha))
    · obtain ⟨y4, y5, rfl, eD, s3⟩ := hP
      rw [List.getElem?_map] at hv
      obtain ⟨x, hx, rfl⟩ : ∃ x, ss[i]? = some x ∧ v = .str x := by
        cases hz : ss[i]? with
        | none =>
          rw [hz] at hv
          cases hv
        | some x =>
          rw [hz] at hv
          exact ⟨x, rfl, (Option.some.inj hv).symm⟩
      have hxk := hss x (List.mem_of_getElem? hx)
      obtain ⟨d, hval, hd⟩ := he.look hxk
      have nDd : d ≠ D := ne_of_none hd nD
      have nud : u ≠ d := by
        intro z
        rw [← z, hU] at hd
        cases Option.some.inj hd
        rw [valV_flag] at hval
        split at hval <;> cases hval
      have d3 := s3 _ _ hd
      refine ⟨d, _, d3, trivial, fun od => ?_⟩
      have u3 : (upd H3 d (.frz od (.dK (flag (look tab x))))) u = some (.dK kvs) := by
        rw [upd_ne nud]
        exact s3 _ _ hU
      have gg := DGet.k (k := Sum.inr x) u3
      rw [hval] at gg
      refine ⟨.ref u, rfl, .str x, rfl, u, .ref d, rfl, gg, d, od, rfl, .inl ⟨_, upd_same, ?_⟩⟩
      refine for_it walk_keys (fun j σ H4 => ∃ y5 : Option V, σ = [some (.str n), some (.ref a), some (.ref u), some (.ref D), some (.str x), y5] ∧ H4 D = some (.dK (flag (addAll (ancAt tab n ss i) ((look tab x).take j)))) ∧
          H4 d = some (.frz od (.dK (flag (look tab x)))) ∧ ∀ b o, b ≠ d → H b = some o → H4 b = some o)
        ⟨y5, rfl, by rw [upd_ne nDd.symm]; exact eD, upd_same, fun b o nb hb => by rw [upd_ne nb]; exact s3 _ _ hb⟩ (fun j σ H4 _ hP => ?_) (fun j v σ H4 H5 hj hP hY => ?_) (fun σ H4 hP => ?_)
      · obtain ⟨_, _, _, e, _⟩ := hP
        exact e
      · obtain ⟨y5, rfl, e1, e2, e3⟩ := hP
        obtain ⟨rfl, k', v', hk, rfl⟩ := hY
        obtain ⟨z, hz, rfl⟩ : ∃ z, (look tab x)[j]? = some z ∧ k' = Sum.inr z := by
          unfold flag at hk
          rw [List.getElem?_map] at hk
          cases hz : (look tab x)[j]? with
          | none =>
            rw [hz] at hk
            cases hk
          | some z =>
            rw [hz] at hk
            cases hk
            exact ⟨z, rfl, rfl⟩
        have ln : (addAll (ancAt tab n ss i) ((look tab x).take j)).length ≤ (n :: tabKeys tab).length := by
          refine nodup_le (addAll_nodup ancOf_nodup) fun y hy => ?_
          rcases mem_addAll.mp hy with g | g
          · rcases mem_ancOf.mp g with rfl | ⟨s', _, g2⟩
            · exact List.mem_cons_self ..
            · exact List.mem_cons_of_mem _ (look_sub hok g2)
          · exact List.mem_cons_of_mem _ (look_sub hok (List.mem_of_mem_take g))
        have lt : (tabKeys tab).length = tab.length := List.length_map _
        rw [List.length_cons, lt] at ln
        refine ⟨.ref D, rfl, .str z, rfl, D, _, rfl, DPut.k (k := Sum.inr z) e1 (by rw [flag_len]; exact sz1 (by omega)), ?_⟩
        refine ⟨_, rfl, ?_, ?_, ?_⟩
        · rw [upd_same, put_flag, addAll_take _ hz]
        · rw [upd_ne nDd]
          exact e2
        · intro b o nb hb
          rw [upd_ne (ne_of_none hb nD)]
          exact e3 b o nb hb
      · obtain ⟨y5, rfl, e1, e2, e3⟩ := hP
        refine ⟨e2, _, _, rfl, ?_, ?_⟩
        · rw [upd_ne nDd.symm, e1, flag_len, List.take_length, ancAt_next hx]
        · intro b o hb
          by_cases z : b = d
          · subst z
            rw [upd_same, ← hd]
            exact hb
          · rw [upd_ne z]
            exact e3 b o z hb
    · obtain ⟨y4, y5, rfl, eD, s3⟩ := hP
      have et : ss.take (ss.map V.str).length = ss := by
        rw [List.length_map, List.take_length]
      unfold ancAt at eD
      rw [et] at eD
      exact ⟨.ref D, rfl, q _ D s3 nD eD⟩
end
end Lw
/-! A hierarchy as an object. -/
namespace Kv
open PySem PySem.Spec PyProof.Rows L2
def flds (r q u : Addr) : List (Str × V) := putF "above" (.ref u) (putF "places" (.ref q) (putF "rows" (.ref r) []))
theorem f1 : ¬ (("rows" : Str) = "above") := by decide +kernel
theorem f2 : ¬ (("rows" : Str) = "places") := by decide +kernel
theorem f3 : ¬ (("places" : Str) = "above") := by decide +kernel
theorem flds_rows (r q u : Addr) : (flds r q u).lookup ("rows" : Str) = some (.ref r) := by
  unfold flds
  rw [lookup_putF, if_neg f1, lookup_putF, if_neg f2, lookup_putF, if_pos rfl]
theorem flds_places (r q u : Addr) : (flds r q u).lookup ("places" : Str) = some (.ref q) := by
  unfold flds
  rw [lookup_putF, if_neg f3, lookup_putF, if_pos rfl]
theorem flds_above (r q u : Addr) : (flds r q u).lookup ("above" : Str) = some (.ref u) := by
  unfold flds
  rw [lookup_putF, if_pos rfl]
theorem flds_no (r q u : Addr) {m : Str} (h1 : ¬ m = "above") (h2 : ¬ m = "places") (h3 : ¬ m = "rows") : (flds r q u).lookup m = none := by
  unfold flds
  rw [lookup_putF, if_neg h1, lookup_putF, if_neg h2, lookup_putF, if_neg h3]
  rfl
theorem two_flds (r q : Addr) : (putF "places" (V.ref q) (putF "rows" (V.ref r) [])).length < 1000 := by
  show (if ("rows" : Str) = "places" then [(("rows" : Str), V.ref q)] else (("rows" : Str), V.ref r) :: putF "places" (V.ref q) []).length < 1000
  rw [if_neg f2]
  show 2 < 1000
  decide
/-- the hierarchy of these rows stands at x -/
structure HierAt (C : Addr) (H : Hp) (x : Addr) (rows : List Row2) : Prop where
  ex : ∃ (dx r q u : Addr) (rvs : List V) (kvs : List (Key × V)), H x = some (.ins C dx (flds r q u)) ∧ H r = some (.lst rvs) ∧ RowsAre H rvs rows ∧
    H q = some (.dK (placeKV (fsts rows))) ∧ H u = some (.dK kvs) ∧ Entries H kvs (ancTab rows)
theorem HierAt.same {C : Addr} {H H' : Hp} {x : Addr} {rows : List Row2} (h : HierAt C H x rows) (s : Same H H') : HierAt C H' x rows := by
  obtain ⟨dx, r, q, u, rvs, kvs, h1, h2, h3, h4, h5, h6⟩ := h.ex
  exact ⟨dx, r, q, u, rvs, kvs, s _ _ h1, s _ _ h2, h3.same s, s _ _ h4, s _ _ h5, h6.mono fun d as e => s _ _ e⟩
theorem RowAt.wrX {H : Hp} {R : Addr} {o0 o : HO} (h : H R = some o0) (hn : ∀ xs, HO.tup xs ≠ o0) {v : V} {r : Row2} (a : RowAt H v r) : RowAt (upd H R o) v r := by
  obtain ⟨t, u, e, h1, h2⟩ := a
  exact ⟨t, u, e, by rw [upd_ne (ne_of h1 h (hn _))]; exact h1, by rw [upd_ne (ne_of h2 h (hn _))]; exact h2⟩
theorem RowsAre.wrX {H : Hp} {R : Addr} {o0 o : HO} (h : H R = some o0) (hn : ∀ xs, HO.tup xs ≠ o0) {vs : List V} {rows : List Row2} (a : RowsAre H vs rows) : RowsAre (upd H R o) vs rows :=
  Paired.mapP a fun _ _ z => z.wrX h hn
theorem RowAt.butX {H H' : Hp} {x : Addr} {o0 : HO} (h : H x = some o0) (hn : ∀ xs, HO.tup xs ≠ o0) (b : But x H H') {v : V} {r : Row2} (a : RowAt H v r) : RowAt H' v r := by
  obtain ⟨t, u, e, h1, h2⟩ := a
  exact ⟨t, u, e, b _ _ (ne_of h1 h (hn _)) h1, b _ _ (ne_of h2 h (hn _)) h2⟩
theorem Entries.wr {H : Hp} {R : Addr} {o : HO} : ∀ {kvs : List (Key × V)} {tab : Tab}, Entries H kvs tab → (∀ kv ∈ kvs, kv.2 ≠ .ref R) → Entries (upd H R o) kvs tab
  | _, _, .nil, _ => .nil
  | p :: r, _, .cons ⟨e1, d, e2, e3⟩ t, h => by
    have hd : d ≠ R := fun z => h p (List.mem_cons_self ..) (by rw [e2, z])
    exact .cons ⟨e1, d, e2, by rw [upd_ne hd]; exact e3⟩ (Entries.wr t fun kv hk => h kv (List.mem_cons_of_mem _ hk))
theorem tyL {K : PySem.W.Frag} {H : Hp} {a : Addr} {xs : List V} (h : SqL K H a xs) : TyX K H (.ref a) (.type "list") := by
  rcases h with (h | ⟨o, h⟩) | ⟨o, its, n, hk, hc, _⟩
  · exact .base (.lst h)
  · exact .base (.frz h)
  · exact .kList hk hc
theorem tyT {K : PySem.W.Frag} {H : Hp} {a : Addr} {xs : List V} (h : SqT K H a xs) : TyX K H (.ref a) (.type "tuple") := by
  rcases h with (h | ⟨o, h⟩) | ⟨o, its, n, hk, hc, _⟩
  · exact .base (.tup h)
  · exact .fTuple h
  · exact .kTuple hk hc
theorem sqL_but {K : PySem.W.Frag} {H H' : Hp} {x c : Addr} {us : List V} {C dx : Addr} {fs : List (Str × V)} (h : SqL K H c us) (hx : H x = some (.ins C dx fs)) (b : But x H H') : SqL K H' c us := by
  rcases h with (h | ⟨o, h⟩) | h
  · exact .inl (.inl (b _ _ (ne_of h hx (by intro z; cases z)) h))
  · exact .inl (.inr ⟨o, b _ _ (ne_of h hx (by intro z; cases z)) h⟩)
  · exact .inr h
theorem sqT_but {K : PySem.W.Frag} {H H' : Hp} {x c : Addr} {us : List V} {C dx : Addr} {fs : List (Str × V)} (h : SqT K H c us) (hx : H x = some (.ins C dx fs)) (b : But x H H') : SqT K H' c us := by
  rcases h with (h | ⟨o, h⟩) | h
  · exact .inl (.inl (b _ _ (ne_of h hx (by intro z; cases z)) h))
  · exact .inl (.inr ⟨o, b _ _ (ne_of h hx (by intro z; cases z)) h⟩)
  · exact .inr h
theorem sqT_same {K : PySem.W.Frag} {H H' : Hp} {c : Addr} {us : List V} (h : SqT K H c us) (s : Same H H') : SqT K H' c us := by
  rcases h with (h | ⟨o, h⟩) | h
  · exact .inl (.inl (s _ _ h))
  · exact .inl (.inr ⟨o, s _ _ h⟩)
  · exact .inr h
/-- enumerate over a tuple, as a walk -/
theorem walk_enumT {K : PySem.W.Frag} {a : Addr} {xs : List V} : Walk (Itet K a) xs.length (fun H => SqT K H a xs) (YPair (fun i => some (.int (i : Nat))) (fun i => xs[i]?)) := by
  refine ⟨fun i H hi q => ⟨xs, xs[i], q, by simp [hi]⟩, fun H q => ⟨xs, q, rfl⟩, fun i H v H2 hi q y => ?_⟩
  obtain ⟨T, x, e1, e2, e3, e4⟩ := y
  exact ⟨T, .int (i : Nat), x, e1, e2, e3, rfl, e4 xs q⟩
/-- what the walk asks of the class Hierarchy -/
structure HTxt (K : PySem.W.Frag) (mg : Str → Option Value) (C : Addr) : Prop where
  cl : Cls K C
  nR : NoAttr K C "rows"
  nP : NoAttr K C "places"
  nA : NoAttr K C "above"
  mgC : mg "Hierarchy" = some (.ref C)
  lim : ∃ mc u, ClX.CRead K C mc ∧ ClX.CVal K C mc "LIMIT" (.int 20) u
end Kv
namespace Lw
open PySem PySem.Spec PyProof.Rows L2 Kv
theorem scInit : FnScope ["self", "classes", "position", "row", "problem", "name", "superclasses"] ["self", "classes"] (defScope m_init) :=
  ⟨rfl, rfl, rfl, by decide +kernel, rfl, by decide +kernel, by decide +kernel⟩
section
variable {P : Program} {w : World} {K : PySem.W.Frag} {mg : Str → Option Value} {base : Heap}
def spInit (K : PySem.W.Frag) (C : Addr) : Sp := fun vs H Q _ => ∃ (x dx c : Addr) (us : List V) (rows : List Row2), vs = [.ref x, .ref c] ∧ H x = some (.ins C dx []) ∧
  (SqL K H c us ∨ (SqT K H c us ∧ us = [])) ∧ RowsAre H us rows ∧ Valid rows ∧ rows.length ≤ 20 ∧
  ∀ H', HierAt C H' x rows → But x H H' → Q .non H'
theorem ok_init {f fP fA C : Addr} {fd fdP fdA : FuncData} {k : Nat} {dvs : List V} (F : FunD K "__init__" "Hierarchy.__init__" (defArgs m_init) (defBody m_init) (defScope m_init) dvs [] f fd) (T : HTxt K mg C)
    (FP : Fun K "row_problem" "row_problem" sProb fP fdP) (bP : Binds K fdP ["row", "known"] []) (gP : mg "row_problem" = some (.ref fP))
    (FA : Fun K "ancestors_of" "ancestors_of" sAnc fA fdA) (bA : Binds K fdA ["name", "superclasses", "above"] []) (gA : mg "ancestors_of" = some (.ref fA))
    (GP : FnOk P w K mg base CX0 (k + 2) fP fdP ["row", "known"] spProb) (GA : FnOk P w K mg base CX0 (k + 1) fA fdA ["name", "superclasses", "above"] spAnc)
    (mi : mg "isinstance" = none) (mT : mg "tuple" = none) (mL : mg "list" = none) (me : mg "enumerate" = none) (ml : mg "len" = none) :
    FnOk P w K mg base CX0 (k + 3) f fd ["self", "classes"] (spInit K C) := by
  refine F.ok scInit (fun vs H Q E h => ?_) (fun cdv A outer s H vs Q E hr h => ?_)
  · obtain ⟨x, dx, c, us, rows, rfl, _⟩ := h
    rfl
  · obtain ⟨x, dx, c, us, rows, rfl, hx, hc, hra, hva, hlen, fin⟩ := h
    have hu := hu_of hr
    have hrA := hr.mono (by omega : k + 1 ≤ k + 2)
    refine ⟨_, PSs.nox (pss_cons (ps_if (pt_not (pt_val (pe_callB call_isiT (by rfl) mi (by decide +kernel) (pa_cons (pv 1)
          (pa_cons (pe_tup (pa_cons (pe_bltn (v := .ty "list") (by rfl) mL (by decide +kernel : bootBuiltins "list" = some (.type "list")) rfl)
            (pa_cons (pe_bltn (v := .ty "tuple") (by rfl) mT (by decide +kernel : bootBuiltins "tuple" = some (.type "tuple")) rfl) pa_nil))) pa_nil))))) (pss_one ps_never) pss_nil)
      (pss_cons (ps_fld (pv 0) (pe_lst pa_nil) rfl)
      (pss_cons (ps_fld (pv 0) pe_dnewK rfl)
      (pss_cons (ps_fld (pv 0) pe_dnewK rfl)
      (pss_cons (ps_for PassesOwn.never rfl (pi_enumS (by rfl) me (pa_cons (pv 1) pa_nil))
          (pg_tup rfl (pgs_cons (pg_name (i := 2) scInit.nd rfl (.inl rfl)) (pgs_cons (pg_name (i := 3) scInit.nd rfl (.inl rfl)) pgs_nil)))
        (pss_cons (ps_set (i := 4) scInit.nd rfl (.inl rfl) (pe_call GP hr (by rfl) gP FP.kp bP .nil pass0 (pa_cons (pv 3) (pa_cons (pe_fld (pv 0) rfl) pa_nil))))
        (pss_cons (ps_if (pt_cmpR op_notN (pv 4) pe_non (nomark _)) (pss_one ps_never) pss_nil)
        (pss_cons (ps_asg (pv 3) (pg_tup (by rfl) (pgs_cons (pg_name (i := 5) scInit.nd rfl (.inl rfl)) (pgs_cons (pg_name (i := 6) scInit.nd rfl (.inl rfl)) pgs_nil))))
        (pss_cons (ps_expr (pe_bm PySem.F.plainAttrs_list PySem.F.slot_list_append PySem.F.type_list_append mt_append (pe_fld (pv 0) rfl)
            (pa_cons (pe_tup (pa_cons (pv 5) (pa_cons (pv 6) pa_nil))) pa_nil)))
        (pss_cons (ps_dput hu (pe_fld (pv 0) rfl) (pv 5) (pv 2) rfl)
        (pss_one (ps_dput hu (pe_fld (pv 0) rfl) (pv 5) (pe_call GA hrA (by rfl) gA FA.kp bA .nil pass0 (pa_cons (pv 5) (pa_cons (pv 6) (pa_cons (pe_fld (pv 0) rfl) pa_nil)))) rfl))))))))
      (pss_one (ps_if (pt_cmpR op_gt (pe_callB call_len_seq (by rfl) ml PySem.boot_len (pa_cons (pe_fld (pv 0) rfl) pa_nil)) (ClX.pe_cval (pe_glob (v := .ref C) (by rfl) T.mgC rfl)) (nomark _)) (pss_one ps_never) pss_nil))))))), ?_⟩
    obtain ⟨T0, hty, hkit⟩ : ∃ T0 : String, (∀ H', Same H H' → TyX K H' (.ref c) (.type T0)) ∧ PySem.W.kitAny K (.type T0) [.type "list", .type "tuple"] = some true := by
      rcases hc with hc | ⟨hc, _⟩
      · exact ⟨"list", fun H' s' => tyL (s'.seq hc), kitAny_cons (kit_ty (by decide +kernel : kitB "list" "list" = some true)) (fun z => nomatch z) (fun _ => rfl)⟩
      · exact ⟨"tuple", fun H' s' => tyT (sqT_same hc s'), kitAny_cons (kit_ty (by decide +kernel : kitB "tuple" "list" = some false))
          (fun _ => kitAny_cons (kit_ty (by decide +kernel : kitB "tuple" "tuple" = some true)) (fun z => nomatch z) (fun _ => rfl)) (fun z => nomatch z)⟩
    refine ⟨.ref c, rfl, (by decide : 2 ≤ sizeLine), fun tp ntp => ?_⟩
    have s0 := same_new (o := .tup [.ty "list", .ty "tuple"]) ntp
    refine ⟨.ref c, tp, [.ty "list", .ty "tuple"], _, [.type "list", .type "tuple"], true, rfl, upd_same, .cons (.ty _) (.cons (.ty _) .nil), hty _ s0, hkit, true, rfl, iteF ?_⟩
    have x0 := s0 _ _ hx
    refine ⟨(by decide : 0 ≤ sizeLine), fun r nr => ?_⟩
    have nxr : x ≠ r := ne_of_none x0 nr
    refine ⟨.ref x, rfl, x, C, dx, [], rfl, (by rw [upd_ne nxr]; exact x0), T.cl, T.nR, (by show 0 < 1000; decide), ?_⟩
    intro q nq
    have nxq : x ≠ q := ne_of_none upd_same nq
    have nrq : r ≠ q := ne_of_none (o := .lst []) (by rw [upd_ne nxr.symm, upd_same]) nq
    refine ⟨.ref x, rfl, x, C, dx, _, rfl, (by rw [upd_ne nxq, upd_same]), T.cl, T.nP, (by show 1 < 1000; decide), ?_⟩
    intro u nu
    have nxu : x ≠ u := ne_of_none upd_same nu
    have nqu : q ≠ u := ne_of_none (o := .dK []) (by rw [upd_ne nxq.symm, upd_same]) nu
    have nru : r ≠ u := ne_of_none (o := .lst []) (by rw [upd_ne nxr.symm, upd_ne nrq, upd_ne nxr.symm, upd_same]) nu
    refine ⟨.ref x, rfl, x, C, dx, _, rfl, (by rw [upd_ne nxu, upd_same]), T.cl, T.nA, two_flds r q, ?_⟩
    have nr0 : H r = none := s0.free nr
    have nq0 : H q = none := by
      have : (upd (upd H tp (.tup [.ty "list", .ty "tuple"])) r (.lst [])) q = none := by
        rw [upd_ne nxq.symm] at nq
        exact nq
      exact s0.free ((same_new nr).free this)
    have nu0 : H u = none := by
      rw [upd_ne nxu.symm, upd_ne nqu.symm, upd_ne nxu.symm] at nu
      exact s0.free ((same_new nr).free nu)
    have P0 : ∃ (y2 y3 y4 y5 y6 : Option V) (rvs : List V) (kvs : List (Key × V)), ([some (.ref x), some (.ref c), none, none, none, none, none] : List (Option V)) = [some (.ref x), some (.ref c), y2, y3, y4, y5, y6] ∧
        (upd (upd (upd (upd (upd (upd (upd H tp (.tup [.ty "list", .ty "tuple"])) r (.lst [])) x (.ins C dx (putF "rows" (.ref r) []))) q (.dK [])) x (.ins C dx (putF "places" (.ref q) (putF "rows" (.ref r) [])))) u (.dK [])) x (.ins C dx (flds r q u))) x = some (.ins C dx (flds r q u)) := ⟨none, none, none, none, none, [], [], rfl, upd_same⟩
    clear P0
    generalize hG : (upd (upd (upd (upd (upd (upd (upd H tp (.tup [.ty "list", .ty "tuple"])) r (.lst [])) x (.ins C dx (putF "rows" (.ref r) []))) q (.dK [])) x (.ins C dx (putF "places" (.ref q) (putF "rows" (.ref r) [])))) u (.dK [])) x (.ins C dx (putF "above" (.ref u) (putF "places" (.ref q) (putF "rows" (.ref r) []))))) = G
    have gx : G x = some (.ins C dx (flds r q u)) := by
      rw [← hG]
      exact upd_same
    have gr : G r = some (.lst []) := by
      rw [← hG, upd_ne nxr.symm, upd_ne nru, upd_ne nxr.symm, upd_ne nrq, upd_ne nxr.symm, upd_same]
    have gq : G q = some (.dK []) := by
      rw [← hG, upd_ne nxq.symm, upd_ne nqu, upd_ne nxq.symm, upd_same]
    have gu : G u = some (.dK []) := by
      rw [← hG, upd_ne nxu.symm, upd_same]
    have gb : But x H G := by
      intro b o nb hb
      rw [← hG, upd_ne nb, upd_ne (ne_of_none hb nu0), upd_ne nb, upd_ne (ne_of_none hb nq0), upd_ne nb, upd_ne (ne_of_none hb nr0)]
      exact s0 _ _ hb
    clear hG
    obtain ⟨Pv, hPv⟩ : ∃ Pv : Nat → L2.St → Hp → Prop, Pv = fun i σ H4 => ∃ (y2 y3 y4 y5 y6 : Option V) (rvs : List V) (kvs : List (Key × V)), σ = [some (.ref x), some (.ref c), y2, y3, y4, y5, y6] ∧
        H4 x = some (.ins C dx (flds r q u)) ∧ H4 r = some (.lst rvs) ∧ RowsAre H4 rvs (rows.take i) ∧ H4 q = some (.dK (placeKV (fsts (rows.take i)))) ∧ H4 u = some (.dK kvs) ∧
        Entries H4 kvs (ancTab (rows.take i)) ∧ (∀ kv ∈ kvs, kv.2 ≠ .ref q ∧ kv.2 ≠ .ref u ∧ kv.2 ≠ .ref r) ∧ But x H H4 := ⟨_, rfl⟩
    have start : Pv 0 [some (.ref x), some (.ref c), none, none, none, none, none] G := by
      rw [hPv]
      exact ⟨none, none, none, none, none, [], [], rfl, gx, gr, .nil, gq, gu, .nil, fun kv h => (nomatch h), gb⟩
    have lenU : us.length = rows.length := hra.length
    refine ⟨.ref c, rfl, ?_⟩
    rcases hc with hc | ⟨hc, hemp⟩
    · refine .inl ⟨c, us, rfl, sqL_but hc hx gb, ?_⟩
      refine for_it (walk_enum (xs := us)) Pv start (fun i σ H4 _ hP => ?_) (fun i v σ H4 H5 hi hP hY => ?_) (fun σ H4 hP => ?_)
      · rw [hPv] at hP
        obtain ⟨_, _, _, _, _, _, _, _, _, _, _, _, _, _, _, b4⟩ := hP
        exact sqL_but hc hx b4
      · rw [hPv] at hP
        obtain ⟨y2, y3, y4, y5, y6, rvs, kvs, rfl, ex, er, era, eq, eu, een, ene, b4⟩ := hP
        obtain ⟨T5, a5, v5, rfl, nT5, rfl, ea5, ev5⟩ := hY
        cases Option.some.inj ea5
        obtain ⟨⟨n, ss⟩, hrow, hRA⟩ := hra.get ev5
        obtain ⟨t, sA, rfl, ht, hsA⟩ := id hRA
        obtain ⟨v1, v2, v3, v4⟩ := hva i n ss hrow
        have il : i < rows.length := by omega
        have s5 := same_new (o := .tup [.int (i : Nat), .ref t]) nT5
        have RA4 : RowAt H4 (.ref t) (n, ss) := hRA.butX hx (by intro xs z; cases z) b4
        have lf : (fsts (rows.take i)).length = i := by
          unfold fsts
          rw [List.length_map, List.length_take]
          omega
        have ssl : ss.length ≤ i := by
          have := nodup_le v3 v4
          omega
        refine ⟨T5, [.int (i : Nat), .ref t], rfl, .inl (.inl upd_same), rfl, _, _, rfl, _, _, rfl, rfl, ?_⟩
        -- problem
        refine ⟨.ref t, rfl, .ref x, rfl, x, C, dx, _, _, rfl, s5 _ _ ex, T.cl, T.nP, flds_places r q u, t, q, (n, ss), _, rfl, RA4.same s5, s5 _ _ eq, v1, ?_, ?_, v3, (by show ss.length ≤ 100; omega), fun H6 s6 => ?_⟩
        · have := place_val n (fsts (rows.take i))
          rw [decide_eq_false v2] at this
          exact Option.isNone_iff_eq_none.mp (by rw [← Option.not_isSome, this]; rfl)
        · intro y hy
          rw [place_val]
          exact decide_eq_true (v4 y hy)
        have vn : valV (placeKV (fsts (rows.take i))) (Sum.inr n : Key) = none := by
          have := place_val n (fsts (rows.take i))
          rw [decide_eq_false v2] at this
          exact Option.isNone_iff_eq_none.mp (by rw [← Option.not_isSome, this]; rfl)
        have s46 := s5.trans s6
        refine ⟨.non, rfl, rfl, _, rfl, iteF ?_⟩
        -- name, superclasses = row
        refine ⟨.ref t, rfl, t, _, rfl, .inl (.inl (b4.trans (But.of_same s46) t _ (ne_of ht hx (by intro z; cases z)) ht)), rfl, _, _, rfl, _, _, rfl, rfl, ?_⟩
        -- self.rows.append(..)
        have r6 := s46 _ _ er
        refine ⟨.ref x, rfl, x, C, dx, _, _, rfl, s46 _ _ ex, T.cl, T.nR, flds_rows r q u, .inl ⟨rfl, _, .inl (.inl r6)⟩, .str n, rfl, .ref sA, rfl, (by decide : 2 ≤ sizeLine), fun w7 n7 => ?_⟩
        have s7 := same_new (o := .tup [.str n, .ref sA]) n7
        have s47 := s46.trans s7
        have r7 := s47 _ _ er
        have lr : rvs.length = i := by
          have := era.length
          rw [List.length_take] at this
          omega
        refine ⟨r, rvs, _, rfl, rfl, r7, sz1 (by omega), ?_⟩
        have x8 : ∀ o, (upd (upd H6 w7 (.tup [.str n, .ref sA])) r o) x = some (.ins C dx (flds r q u)) := fun o => by
          rw [upd_ne nxr]
          exact s47 _ _ ex
        have q8 : ∀ o, (upd (upd H6 w7 (.tup [.str n, .ref sA])) r o) q = some (.dK (placeKV (fsts (rows.take i)))) := fun o => by
          rw [upd_ne nrq.symm]
          exact s47 _ _ eq
        have u8 : ∀ o, (upd (upd H6 w7 (.tup [.str n, .ref sA])) r o) u = some (.dK kvs) := fun o => by
          rw [upd_ne nru.symm]
          exact s47 _ _ eu
        -- self.places[name] = position
        refine ⟨.int (i : Nat), rfl, .ref x, rfl, x, C, dx, _, _, rfl, x8 _, T.cl, T.nP, flds_places r q u, .str n, rfl, q, _, rfl, DPut.k (k := Sum.inr n) (q8 _) (by rw [place_len]; exact sz1 (by omega)), ?_⟩
        rw [putK_new _ vn]
        generalize hM : upd (upd (upd H6 w7 (.tup [.str n, .ref sA])) r (.lst (rvs ++ [.ref w7]))) q (.dK (placeKV (fsts (rows.take i)) ++ [(Sum.inr n, .int (i : Nat))])) = M
        have mx : M x = some (.ins C dx (flds r q u)) := by
          rw [← hM, upd_ne nxq]
          exact x8 _
        have mr : M r = some (.lst (rvs ++ [.ref w7])) := by
          rw [← hM, upd_ne nrq, upd_same]
        have mq : M q = some (.dK (placeKV (fsts (rows.take i)) ++ [(Sum.inr n, .int (i : Nat))])) := by
          rw [← hM, upd_same]
        have mu : M u = some (.dK kvs) := by
          rw [← hM, upd_ne nqu.symm]
          exact u8 _
        have mra : RowsAre M (rvs ++ [.ref w7]) (rows.take i ++ [(n, ss)]) := by
          rw [← hM]
          refine RowsAre.wrX (q8 _) (by intro xs z; cases z) (RowsAre.wrX r7 (by intro xs z; cases z) ?_)
          refine RowsAre.snoc (era.same s47) ⟨w7, sA, rfl, upd_same, ?_⟩
          exact s47 _ _ (b4 _ _ (ne_of hsA hx (by intro z; cases z)) hsA)
        have men : Entries M kvs (ancTab (rows.take i)) := by
          rw [← hM]
          refine Entries.wr (Entries.wr (een.mono fun d as e => s47 _ _ e) fun kv hk => (ene kv hk).2.2) fun kv hk => (ene kv hk).1
        have mb : But x H M := by
          intro b o nb hb
          rw [← hM, upd_ne (ne_of_none hb nq0), upd_ne (ne_of_none hb nr0)]
          exact s47 _ _ (b4 _ _ nb hb)
        clear hM
        have msA := mb _ _ (ne_of hsA hx (by intro z; cases z)) hsA
        -- ancestors_of(name, superclasses, self.above)
        refine ⟨.str n, rfl, .ref sA, rfl, .ref x, rfl, x, C, dx, _, _, rfl, mx, T.cl, T.nA, flds_above r q u, n, sA, u, ss, kvs, ancTab (rows.take i), rfl, msA, mu, men, ancTab_ok rows i, ?_, ?_, fun H9 F9 s9 nF9 eF9 => ?_⟩
        · have := ancTab_keys (rows.take i)
          have e2 := congrArg List.length this
          unfold tabKeys at e2
          rw [List.length_map, lf] at e2
          omega
        · intro y hy
          rw [ancTab_keys]
          exact v4 y hy
        have kl : kvs.length = i := by
          have h1 := men.length
          have := ancTab_keys (rows.take i)
          have e2 := congrArg List.length this
          unfold tabKeys at e2
          rw [List.length_map, lf] at e2
          omega
        have kn : valV kvs (Sum.inr n : Key) = none := men.none (by rw [ancTab_keys]; exact v2)
        refine ⟨.ref x, rfl, x, C, dx, _, _, rfl, s9 _ _ mx, T.cl, T.nA, flds_above r q u, .str n, rfl, u, _, rfl, DPut.k (k := Sum.inr n) (s9 _ _ mu) (sz1 (by omega)), ?_⟩
        rw [putK_new _ kn, hPv]
        have tk1 : rows.take (i + 1) = rows.take i ++ [(n, ss)] := by
          rw [List.take_add_one, hrow]
          rfl
        refine ⟨_, _, _, _, _, rvs ++ [.ref w7], kvs ++ [(Sum.inr n, .ref F9)], rfl, ?_, ?_, ?_, ?_, upd_same, ?_, ?_, ?_⟩
        · rw [upd_ne nxu]
          exact s9 _ _ mx
        · rw [upd_ne nru]
          exact s9 _ _ mr
        · rw [tk1]
          exact RowsAre.wrX (s9 _ _ mu) (by intro xs z; cases z) (mra.same s9)
        · rw [upd_ne nqu, tk1, fsts_snoc, place_snoc, lf]
          exact s9 _ _ mq
        · rw [tk1, ancTab_snoc]
          refine Entries.wr (Entries.snoc (men.mono fun d as e => s9 _ _ e) ⟨rfl, F9, rfl, eF9⟩) ?_
          intro kv hk
          rcases List.mem_append.mp hk with z | z
          · exact (ene kv z).2.1
          · rw [List.mem_singleton.mp z]
            intro z2
            cases z2
            rw [mu] at nF9
            cases nF9
        · intro kv hk
          rcases List.mem_append.mp hk with z | z
          · exact ene kv z
          · rw [List.mem_singleton.mp z]
            refine ⟨fun z2 => ?_, fun z2 => ?_, fun z2 => ?_⟩
            · cases z2
              rw [mq] at nF9
              cases nF9
            · cases z2
              rw [mu] at nF9
              cases nF9
            · cases z2
              rw [mr] at nF9
              cases nF9
        · intro b o nb hb
          rw [upd_ne (ne_of_none hb nu0)]
          exact s9 _ _ (mb _ _ nb hb)
      · rw [hPv] at hP
        obtain ⟨y2, y3, y4, y5, y6, rvs, kvs, rfl, ex, er, era, eq, eu, een, ene, b4⟩ := hP
        have tk : rows.take us.length = rows := List.take_of_length_le (by omega)
        rw [tk] at era eq een
        have lr := era.length
        obtain ⟨mc, ul, h1, h2⟩ := T.lim
        refine ⟨.ref x, rfl, x, C, dx, _, _, rfl, ex, T.cl, T.nR, flds_rows r q u, r, rvs, rfl, .inl (.inl (.inl er)), C, mc, .int 20, ul, rfl, h1, h2, _, _, rfl, rfl, _, rfl, ?_⟩
        rw [decide_eq_false (by omega : ¬ (rvs.length : Int) > 20)]
        exact iteF (fin _ ⟨dx, r, q, u, rvs, kvs, ex, er, era, eq, eu, een⟩ b4)
    · subst hemp
      have hr0 : rows = [] := List.eq_nil_of_length_eq_zero (by
        have : ([] : List V).length = 0 := rfl
        omega)
      refine .inr ⟨c, [], rfl, sqT_but hc hx gb, ?_⟩
      refine for_it (walk_enumT (xs := [])) Pv start (fun i σ H4 _ hP => ?_) (fun i v σ H4 H5 hi hP hY => ?_) (fun σ H4 hP => ?_)
      · rw [hPv] at hP
        obtain ⟨_, _, _, _, _, _, _, _, _, _, _, _, _, _, _, b4⟩ := hP
        exact sqT_but hc hx b4
      · exact absurd hi (Nat.not_lt_zero _)
      · rw [hPv] at hP
        obtain ⟨y2, y3, y4, y5, y6, rvs, kvs, rfl, ex, er, era, eq, eu, een, ene, b4⟩ := hP
        have tk : rows.take ([] : List V).length = rows := by
          rw [hr0]
          rfl
        rw [tk] at era eq een
        have lr := era.length
        obtain ⟨mc, ul, h1, h2⟩ := T.lim
        refine ⟨.ref x, rfl, x, C, dx, _, _, rfl, ex, T.cl, T.nR, flds_rows r q u, r, rvs, rfl, .inl (.inl (.inl er)), C, mc, .int 20, ul, rfl, h1, h2, _, _, rfl, rfl, _, rfl, ?_⟩
        rw [decide_eq_false (by omega : ¬ (rvs.length : Int) > 20)]
        exact iteF (fin _ ⟨dx, r, q, u, rvs, kvs, ex, er, era, eq, eu, een⟩ b4)
end
end Lw
/-! New lists do not lie where sys.modules lies. -/
namespace Kv
open PySem PySem.Spec PyProof.Rows L2
section
variable {X : Cx} {es : List Expr} {t : TA} {pos : Pos}
theorem new_low {pins : List (Addr × Obj)} {σ : L2.St} {H : Hp} {s : Shared} (low : sysModules < X.base.objs.size) (I : Inv X pins σ H s) : s.heap.objs.size ≠ sysModules := by
  have := I.ok.bsz
  have := I.sz
  intro z
  rw [z] at this
  exact absurd (Nat.lt_of_lt_of_le low (Nat.le_trans ‹X.base.objs.size ≤ _› this)) (Nat.lt_irrefl _)
/-- a list of written items, its place told apart -/
def tLstN (t : TA) : TE := fun σ H Q => t σ H fun xs H1 => xs.length ≤ sizeLine ∧ ∀ p, H1 p = none → p ≠ sysModules → Q (.ref p) (upd H1 p (.lst xs))
theorem pe_lstN (low : sysModules < X.base.objs.size) (h : PA X es t) : PE X (.List es pos) (tLstN t) := by
  constructor
  intro pins s σ H Q I hq
  refine wpAny_List_spliced (thn (h.run pos pins s σ H _ I hq) ?_)
  rintro us s1 ⟨xs, H1, I1, r, z, q⟩
  refine ⟨by rw [← r.length]; exact z, ?_⟩
  have hf : H1 s1.heap.objs.size = none := I1.hok.fresh (Nat.le_refl _)
  have ok : ObjOk X.prog X.w (upd H1 s1.heap.objs.size (.lst xs)) (s1.heap.push { cls := .type "list", data := .seq us.toArray }) s1.heap.objs.size (.lst xs) :=
    ⟨z, us, 0, r, Heap.get?_push_size _ rfl⟩
  exact ⟨.ref s1.heap.objs.size, _, I1.laid (t' := s1.toks) (fun b u e => Heap.get?_push_of_some _ e) (Nat.le_refl _) ok, rfl, q _ hf (new_low low I1)⟩
def rListN (K : PySem.W.Frag) : List V → Hp → VK → Prop := fun xs H Q => ∃ p ys, xs = [.ref p] ∧ SqL K H p ys ∧
  ∀ l, H l = none → l ≠ sysModules → Q (.ref l) (upd H l (.lst ys))
theorem call_listN (low : sysModules < X.base.objs.size) : CallR X (.type "list") (rListN X.K) := by
  intro pins s σ H xs us Q I r h
  obtain ⟨p, ys, rfl, hq, q⟩ := h
  obtain ⟨u, rfl, rx⟩ := vals1 r
  cases rx
  obtain ⟨its, rv, pl, hz⟩ := I.list hq
  have hlen := rv.length
  obtain ⟨o, ho, hc, n, hd⟩ := pl.isList
  refine call_list_seq p (.inl rfl) ho hc hd ?_ (by simp only [List.size_toArray]; omega)
  intro h2 c2 kp e
  have ok : ObjOk X.prog X.w (upd H s.heap.objs.size (.lst ys)) h2 s.heap.objs.size (.lst ys) := ⟨hz, its, c2, rv, e⟩
  exact ⟨.ref s.heap.objs.size, _, I.laid (t' := s.toks) kp (Nat.le_refl _) ok, rfl, q _ (I.hok.fresh (Nat.le_refl _)) (new_low low I)⟩
end
/-- a value that can be shown, dicts and lists in it -/
def GoodN (n m : Nat) (K : PySem.W.Frag) (H : Hp) (v : V) : Prop := ∃ d : PyData, Sh K false H v d ∧ Fit n m d
theorem GoodN.same {n m : Nat} {K : PySem.W.Frag} {H H' : Hp} {v : V} (g : GoodN n m K H v) (s : Same H H') : GoodN n m K H' v := by
  obtain ⟨d, h, r⟩ := g
  exact ⟨d, h.same s, r⟩
mutual
/-- the value v is the datum d, all in the heap; its lists lie where ok tells -/
inductive ShO (ok : Addr → Prop) (H : Hp) : V → PyData → Prop
  | non : ShO ok H .non .none
  | bl (b : Bool) : ShO ok H (.bl b) (.bool b)
  | int (i : Int) : ShO ok H (.int i) (.int i)
  | str (x : Str) : ShO ok H (.str x) (.str x)
  | lst {a : Addr} {xs : List V} {ds : List PyData} : H a = some (.lst xs) → ok a → ShOs ok H xs ds → ShO ok H (.ref a) (.list ds)
  | tup {a : Addr} {xs : List V} {ds : List PyData} : H a = some (.tup xs) → ShOs ok H xs ds → ShO ok H (.ref a) (.tuple ds)
  | dict {a : Addr} {kvs : List (Key × V)} {ks vs : List PyData} : H a = some (.dK kvs) → ShOs ok H (kvs.map fun p => kV p.1) ks →
      ShOs ok H (kvs.map fun p => p.2) vs → ShO ok H (.ref a) (.dict (ks.zip vs))
inductive ShOs (ok : Addr → Prop) (H : Hp) : List V → List PyData → Prop
  | nil : ShOs ok H [] []
  | cons {v : V} {vs : List V} {d : PyData} {ds : List PyData} : ShO ok H v d → ShOs ok H vs ds → ShOs ok H (v :: vs) (d :: ds)
end
mutual
theorem ShO.keep {ok : Addr → Prop} {H H' : Hp} (kL : ∀ a xs, ok a → H a = some (.lst xs) → H' a = some (.lst xs)) (kT : ∀ a xs, H a = some (.tup xs) → H' a = some (.tup xs))
    (kD : ∀ a xs, H a = some (.dK xs) → H' a = some (.dK xs)) : ∀ {v : V} {d : PyData}, ShO ok H v d → ShO ok H' v d
  | _, _, .non => .non
  | _, _, .bl b => .bl b
  | _, _, .int i => .int i
  | _, _, .str x => .str x
  | _, _, .lst h1 h2 h3 => .lst (kL _ _ h2 h1) h2 (ShOs.keep kL kT kD h3)
  | _, _, .tup h1 h3 => .tup (kT _ _ h1) (ShOs.keep kL kT kD h3)
  | _, _, .dict h1 h2 h3 => .dict (kD _ _ h1) (ShOs.keep kL kT kD h2) (ShOs.keep kL kT kD h3)
theorem ShOs.keep {ok : Addr → Prop} {H H' : Hp} (kL : ∀ a xs, ok a → H a = some (.lst xs) → H' a = some (.lst xs)) (kT : ∀ a xs, H a = some (.tup xs) → H' a = some (.tup xs))
    (kD : ∀ a xs, H a = some (.dK xs) → H' a = some (.dK xs)) : ∀ {vs : List V} {ds : List PyData}, ShOs ok H vs ds → ShOs ok H' vs ds
  | _, _, .nil => .nil
  | _, _, .cons h1 h2 => .cons (ShO.keep kL kT kD h1) (ShOs.keep kL kT kD h2)
end
theorem ShO.same {ok : Addr → Prop} {H H' : Hp} (s : Same H H') {v : V} {d : PyData} (h : ShO ok H v d) : ShO ok H' v d :=
  h.keep (fun _ _ _ e => s _ _ e) (fun _ _ e => s _ _ e) (fun _ _ e => s _ _ e)
theorem ShO.but {ok : Addr → Prop} {H H' : Hp} {p : Addr} {zs : List V} (hok : ∀ a, ok a → a ≠ p) (hp : H p = some (.lst zs)) (b : But p H H') {v : V} {d : PyData} (h : ShO ok H v d) : ShO ok H' v d :=
  h.keep (fun _ _ o e => b _ _ (hok _ o) e) (fun _ _ e => b _ _ (ne_of e hp (by intro z; cases z)) e) (fun _ _ e => b _ _ (ne_of e hp (by intro z; cases z)) e)
theorem ShOs.same {ok : Addr → Prop} {H H' : Hp} (s : Same H H') {v : List V} {d : List PyData} (h : ShOs ok H v d) : ShOs ok H' v d :=
  h.keep (fun _ _ _ e => s _ _ e) (fun _ _ e => s _ _ e) (fun _ _ e => s _ _ e)
theorem ShOs.but {ok : Addr → Prop} {H H' : Hp} {p : Addr} {zs : List V} (hok : ∀ a, ok a → a ≠ p) (hp : H p = some (.lst zs)) (b : But p H H') {v : List V} {d : List PyData} (h : ShOs ok H v d) : ShOs ok H' v d :=
  h.keep (fun _ _ o e => b _ _ (hok _ o) e) (fun _ _ e => b _ _ (ne_of e hp (by intro z; cases z)) e) (fun _ _ e => b _ _ (ne_of e hp (by intro z; cases z)) e)
theorem ShOs.snoc {ok : Addr → Prop} {H : Hp} : ∀ {vs : List V} {ds : List PyData} {v : V} {d : PyData}, ShOs ok H vs ds → ShO ok H v d → ShOs ok H (vs ++ [v]) (ds ++ [d])
  | _, _, _, _, .nil, h => .cons h .nil
  | _, _, _, _, .cons a b, h => .cons a (ShOs.snoc b h)
theorem ShOs.length {ok : Addr → Prop} {H : Hp} : ∀ {vs : List V} {ds : List PyData}, ShOs ok H vs ds → vs.length = ds.length
  | _, _, .nil => rfl
  | _, _, .cons _ t => by rw [List.length_cons, List.length_cons, t.length]
mutual
theorem ShO.sh {K : PySem.W.Frag} {ok : Addr → Prop} {H : Hp} (hok : ∀ a, ok a → a ≠ sysModules) : ∀ {v : V} {d : PyData}, ShO ok H v d → Sh K false H v d
  | _, _, .non => .non
  | _, _, .bl b => .bl b
  | _, _, .int i => .int i
  | _, _, .str x => .str x
  | _, _, .lst h1 h2 h3 => .lst (.inl (.inl h1)) (fun _ => hok _ h2) (ShOs.sh hok h3)
  | _, _, .tup h1 h3 => .tup (.inl (.inl h1)) (ShOs.sh hok h3)
  | _, _, .dict h1 h2 h3 => .dict rfl h1 (ShOs.sh hok h2) (ShOs.sh hok h3)
theorem ShOs.sh {K : PySem.W.Frag} {ok : Addr → Prop} {H : Hp} (hok : ∀ a, ok a → a ≠ sysModules) : ∀ {vs : List V} {ds : List PyData}, ShOs ok H vs ds → ShAll K false H vs ds
  | _, _, .nil => .nil
  | _, _, .cons h1 h2 => .cons (ShO.sh hok h1) (ShOs.sh hok h2)
end
/-- a hierarchy stays while a pot is drawn from -/
theorem HierAt.but {C : Addr} {H H' : Hp} {p x : Addr} {rows : List Row2} (hp : PotAt H p) (b : But p H H') (h : HierAt C H x rows) : HierAt C H' x rows := by
  obtain ⟨dx, r, q, u, rvs, kvs, h1, h2, h3, h4, h5, h6⟩ := h.ex
  obtain ⟨r0, g0, ep, _⟩ := id hp
  have nr : r ≠ p := by
    intro z
    rw [z, ep] at h2
    cases Option.some.inj h2
    cases h3 with
    | cons a _ =>
      obtain ⟨_, _, e, _⟩ := a
      cases e
  exact ⟨dx, r, q, u, rvs, kvs, b _ _ (ne_of h1 ep (by intro z; cases z)) h1, b _ _ nr h2, h3.but hp b, b _ _ (ne_of h4 ep (by intro z; cases z)) h4,
    b _ _ (ne_of h5 ep (by intro z; cases z)) h5, h6.mono fun d as e => b _ _ (ne_of e ep (by intro z; cases z)) e⟩
/-- where the lists of a drawn value lie -/
def Apart (p : Addr) : Addr → Prop := fun a => a ≠ p ∧ a ≠ sysModules
/-- a drawn value -/
def Drawn (n m : Nat) (p : Addr) (H : Hp) (v : V) : Prop := ∃ d : PyData, ShO (Apart p) H v d ∧ Fit n m d
theorem Drawn.same {n m : Nat} {p : Addr} {H H' : Hp} {v : V} (g : Drawn n m p H v) (s : Same H H') : Drawn n m p H' v := by
  obtain ⟨d, h, r⟩ := g
  exact ⟨d, h.same s, r⟩
theorem Drawn.but {n m : Nat} {p : Addr} {H H' : Hp} {v : V} (hp : PotAt H p) (b : But p H H') (g : Drawn n m p H v) : Drawn n m p H' v := by
  obtain ⟨d, h, r⟩ := g
  obtain ⟨r1, g1, e, _⟩ := hp
  exact ⟨d, h.but (fun _ z => z.1) e b, r⟩
theorem Drawn.mono {n m n' m' : Nat} {p : Addr} {H : Hp} {v : V} (g : Drawn n m p H v) (a : n ≤ n') (b : m ≤ m') : Drawn n' m' p H v := by
  obtain ⟨d, h, r⟩ := g
  exact ⟨d, h, r.mono a b⟩
theorem Drawn.good {n m : Nat} {K : PySem.W.Frag} {p : Addr} {H : Hp} {v : V} (g : Drawn n m p H v) : GoodN n m K H v := by
  obtain ⟨d, h, r⟩ := g
  exact ⟨d, h.sh (fun _ z => z.2), r⟩
theorem Drawn.non {n m : Nat} {p : Addr} {H : Hp} : Drawn n m p H .non := ⟨_, .non, fit_non.mono (Nat.zero_le _) (Nat.zero_le _)⟩
theorem Drawn.bl {n m : Nat} {p : Addr} {H : Hp} {b : Bool} : Drawn n m p H (.bl b) := ⟨_, .bl b, fit_bl.mono (Nat.zero_le _) (Nat.zero_le _)⟩
theorem Drawn.int {n m : Nat} {p : Addr} {H : Hp} {i : Int} (h : i.natAbs ≤ 10 ^ 60) (hn : 200 ≤ n := by decide) : Drawn n m p H (.int i) := ⟨_, .int i, (fit_int h).mono hn (Nat.zero_le _)⟩
theorem Drawn.str {n m k : Nat} {p : Addr} {H : Hp} {x : Str} (h : Sm k x) (hn : k ≤ n := by decide) : Drawn n m p H (.str x) := ⟨_, .str x, h.fit.mono hn (Nat.zero_le _)⟩
end Kv
namespace Lw
open PySem PySem.Spec PyProof.Rows L2 Kv
theorem scHas : FnScope ["self", "value"] ["self", "value"] (defScope m_has_class) :=
  ⟨rfl, rfl, rfl, by decide +kernel, rfl, by decide +kernel, by decide +kernel⟩
theorem scCount : FnScope ["value"] ["value"] (defScope sIsCount) :=
  ⟨rfl, rfl, rfl, by decide +kernel, rfl, by decide +kernel, by decide +kernel⟩
abbrev NPoint : List Str := ["hierarchy", "value", "name"]
theorem scPoint : FnScope NPoint ["hierarchy", "value"] (defScope sIsPoint) :=
  ⟨rfl, rfl, rfl, by decide +kernel, rfl, by decide +kernel, by decide +kernel⟩
def hasD (ns : List Str) : PyData → Bool
  | .str y => decide (y ∈ ns)
  | _ => false
def pointD (ns : List Str) : PyData → Bool
  | .tuple ds => (decide (1 ≤ ds.length) && decide (ds.length ≤ 3)) && ds.all (hasD ns)
  | _ => false
def countV : V → Bool
  | .int i => decide (1 ≤ i) && decide (i ≤ 3)
  | _ => false
theorem ShAll.get {K : PySem.W.Frag} {nd : Bool} {H : Hp} : ∀ {vs : List V} {ds : List PyData} {i : Nat} {v : V}, ShAll K nd H vs ds → vs[i]? = some v → ∃ d, ds[i]? = some d ∧ Sh K nd H v d
  | _, _, _, _, .nil, e => by simp at e
  | _, _, 0, _, .cons a _, e => by
    simp at e
    subst e
    exact ⟨_, rfl, a⟩
  | _, _, i + 1, v, .cons _ b, e => by
    obtain ⟨d, h1, h2⟩ := ShAll.get (i := i) (v := v) b (by simpa using e)
    exact ⟨d, by simpa using h1, h2⟩
section
variable {P : Program} {w : World} {K : PySem.W.Frag} {mg : Str → Option Value} {base : Heap}
def spHas (K : PySem.W.Frag) (C : Addr) : Sp := fun vs H Q _ => ∃ (x : Addr) (v : V) (d : PyData) (nd : Bool) (rows : List Row2), vs = [.ref x, v] ∧ HierAt C H x rows ∧ Sh K nd H v d ∧
  ∀ H', Same H H' → Q (.bl (hasD (fsts rows) d)) H'
theorem ok_has {f C : Addr} {fd : FuncData} {k : Nat} (F : Fun K "has_class" "Hierarchy.has_class" m_has_class f fd) (T : HTxt K mg C)
    (mi : mg "isinstance" = none) (ms : mg "str" = none) : FnOk P w K mg base CX0 (k + 1) f fd ["self", "value"] (spHas K C) := by
  refine F.ok scHas (fun vs H Q E h => ?_) (fun cdv A outer s H vs Q E hr h => ?_)
  · obtain ⟨x, v, d, nd, rows, rfl, _⟩ := h
    rfl
  · obtain ⟨x, v, d, nd, rows, rfl, ⟨dx, r, q, u, rvs, kvs, h1, h2, h3, h4, h5, h6⟩, sh, fin⟩ := h
    have hu := hu_of hr
    refine ⟨_, pss_one (ps_ret (pe_and (pe_callB call_isi (by rfl) mi (by decide +kernel) (pa_cons (pv 1)
          (pa_cons (pe_bltn (v := .ty "str") (by rfl) ms (by decide +kernel : bootBuiltins "str" = some (.type "str")) rfl) pa_nil)))
        (pe_one (pe_cmp (pc_din hu (pv 1) (pe_fld (pv 0) rfl)) rfl)))), ?_⟩
    obtain ⟨T0, ty, hT⟩ := sh.ty
    rcases hT with ⟨y, rfl, rfl⟩ | ⟨hne, hT⟩
    · refine ⟨.str y, rfl, .str y, .ty "str", _, _, true, rfl, .ty "str", ty, kit_ty (by decide +kernel), true, rfl, iteT ?_⟩
      refine ⟨.str y, rfl, .ref x, rfl, x, C, dx, _, _, rfl, h1, T.cl, T.nP, flds_places r q u, q, _, rfl, DGet.k (k := Sum.inr y) h4, ?_⟩
      rw [place_val]
      cases sh
      exact fin _ (Same.refl _)
    · have hk : kitB T0 "str" = some false := by
        rcases hT with rfl | rfl | rfl | rfl | rfl | rfl <;> decide +kernel
      have : hasD (fsts rows) d = false := by
        cases sh with
        | str y => exact absurd rfl (hne y)
        | _ => rfl
      have fin2 := fin H (Same.refl _)
      rw [this] at fin2
      exact ⟨v, rfl, v, .ty "str", _, _, false, rfl, .ty "str", ty, kit_ty hk, false, rfl, iteF fin2⟩
def spCount (K : PySem.W.Frag) : Sp := fun vs H Q _ => ∃ (v : V) (d : PyData) (nd : Bool), vs = [v] ∧ Sh K nd H v d ∧ Q (.bl (countV v)) H
theorem ok_count {f : Addr} {fd : FuncData} {k : Nat} {t1 : Tok} (F : Fun K "is_parameter_count" "is_parameter_count" sIsCount f fd)
    (mi : mg "isinstance" = none) (mI : mg "int" = none) (mB : mg "bool" = none) (g1 : mg "MAX_PARAMETERS" = some (.int 3 t1)) :
    FnOk P w K mg base CX0 (k + 1) f fd ["value"] (spCount K) := by
  refine F.ok scCount (fun vs H Q E h => ?_) (fun cdv A outer s H vs Q E hr h => ?_)
  · obtain ⟨v, d, nd, rfl, _⟩ := h
    rfl
  · obtain ⟨v, d, nd, rfl, sh, fin⟩ := h
    refine ⟨_, pss_one (ps_ret (pe_and (pe_callB call_isi (by rfl) mi (by decide +kernel) (pa_cons (pv 0)
          (pa_cons (pe_bltn (v := .ty "int") (by rfl) mI (by decide +kernel : bootBuiltins "int" = some (.type "int")) rfl) pa_nil)))
        (pe_and (pe_not (pe_callB call_isi (by rfl) mi (by decide +kernel) (pa_cons (pv 0)
          (pa_cons (pe_bltn (v := .ty "bool") (by rfl) mB (by decide +kernel : bootBuiltins "bool" = some (.type "bool")) rfl) pa_nil))))
        (pe_one (pe_chain op_le op_le pe_int (pv 0) (pe_glob (v := .int 3) (by rfl) g1 ⟨_, rfl⟩)))))), ?_⟩
    have no : ∀ T0 : String, TyX K H v (.type T0) → kitB T0 "int" = some false → Q (.bl false) H →
        (tAndV (tCB (rIsi K) (tCons (tVar 0) (tCons (tC (.ty "int")) tNil))) (tAndV (tNotV (tCB (rIsi K) (tCons (tVar 0) (tCons (tC (.ty "bool")) tNil))))
          (tChain (rI0 fun i j => .bl (decide (i ≤ j))) (rI0 fun i j => .bl (decide (i ≤ j))) (tC (.int 1)) (tVar 0) (tC (.int 3))))) (start ["value"] [v]) H Q := fun T0 ty hk z =>
      ⟨v, rfl, v, .ty "int", _, _, false, rfl, .ty "int", ty, kit_ty hk, false, rfl, iteF z⟩
    cases sh with
    | non => exact no "NoneType" (.base .non) (by decide +kernel) fin
    | str y => exact no "str" (.base (.str y)) (by decide +kernel) fin
    | lst h1 h2 h3 => exact no "list" (tyL h1) (by decide +kernel) fin
    | tup h1 h2 => exact no "tuple" (tyT h1) (by decide +kernel) fin
    | dict h0 h1 h2 h3 => exact no "dict" (.base (.dK h1)) (by decide +kernel) fin
    | bl b =>
      exact ⟨.bl b, rfl, .bl b, .ty "int", _, _, true, rfl, .ty "int", .base (.bl b), kit_ty (by decide +kernel : kitB "bool" "int" = some true), true, rfl, iteT
        ⟨.bl b, rfl, .bl b, .ty "bool", _, _, true, rfl, .ty "bool", .base (.bl b), kit_ty (by decide +kernel : kitB "bool" "bool" = some true), true, rfl, false, rfl, iteF fin⟩⟩
    | int i =>
      refine ⟨.int i, rfl, .int i, .ty "int", _, _, true, rfl, .ty "int", .base (.int i), kit_ty (by decide +kernel : kitB "int" "int" = some true), true, rfl, iteT
        ⟨.int i, rfl, .int i, .ty "bool", _, _, false, rfl, .ty "bool", .base (.int i), kit_ty (by decide +kernel : kitB "int" "bool" = some false), false, rfl, true, rfl, iteT ?_⟩⟩
      refine ⟨.int i, rfl, _, _, rfl, rfl, _, rfl, ite2 (fun e => ?_) (fun e => ?_)⟩
      · refine ⟨_, _, rfl, rfl, ?_⟩
        have : countV (.int i) = decide (i ≤ 3) := by
          show (decide (1 ≤ i) && decide (i ≤ 3)) = _
          rw [e, Bool.true_and]
        rw [this] at fin
        exact fin
      · have : countV (.int i) = false := by
          show (decide (1 ≤ i) && decide (i ≤ 3)) = _
          rw [Bool.eq_false_iff.mpr e, Bool.false_and]
        rw [this] at fin
        exact fin
def spPoint (K : PySem.W.Frag) (C : Addr) : Sp := fun vs H Q _ => ∃ (x : Addr) (v : V) (d : PyData) (nd : Bool) (rows : List Row2), vs = [.ref x, v] ∧ HierAt C H x rows ∧ Sh K nd H v d ∧
  ∀ H', Same H H' → Q (.bl (pointD (fsts rows) d)) H'
theorem ok_point {f fC fH C : Addr} {fd fdC fdH : FuncData} {k : Nat} (F : Fun K "is_point" "is_point" sIsPoint f fd) (T : HTxt K mg C)
    (FC : Fun K "is_parameter_count" "is_parameter_count" sIsCount fC fdC) (bC : Binds K fdC ["value"] []) (gC : mg "is_parameter_count" = some (.ref fC))
    (mH : Meth K C "has_class" fH) (bH : Binds K fdH ["self", "value"] [])
    (GC : FnOk P w K mg base CX0 (k + 1) fC fdC ["value"] (spCount K)) (GH : FnOk P w K mg base CX0 (k + 1) fH fdH ["self", "value"] (spHas K C))
    (mi : mg "isinstance" = none) (mT : mg "tuple" = none) (ml : mg "len" = none) (ma : mg "all" = none) :
    FnOk P w K mg base CX0 (k + 2) f fd ["hierarchy", "value"] (spPoint K C) := by
  refine F.ok scPoint (fun vs H Q E h => ?_) (fun cdv A outer s H vs Q E hr h => ?_)
  · obtain ⟨x, v, d, nd, rows, rfl, _⟩ := h
    rfl
  · obtain ⟨x, v, d, nd, rows, rfl, hH, sh, fin⟩ := h
    refine ⟨_, pss_cons (ps_if (PW.pt (pw_or (pt_not (pt_val (pe_callB call_isi (by rfl) mi (by decide +kernel) (pa_cons (pv 1)
          (pa_cons (pe_bltn (v := .ty "tuple") (by rfl) mT (by decide +kernel : bootBuiltins "tuple" = some (.type "tuple")) rfl) pa_nil)))))
          (pw_or1 (pt_not (pt_val (pe_call GC hr (by rfl) gC FC.kp bC .nil pass0 (pa_cons (pe_callB call_len_seq (by rfl) ml PySem.boot_len (pa_cons (pv 1) pa_nil)) pa_nil))))))) (pss_one (ps_ret pe_bl)) pss_nil)
      (pss_one (ps_ret (pe_callB (cr_all rfl) (by rfl) ma (by decide +kernel) (pa_cons
          (pe_lc (own := [("name", 2)]) (g := gName 2) (tt := tYes) rfl scPoint.nd (pi_tup (pv 1))
            (blkOk_by (own := [("name", 2)]) (N := NPoint) (sc := defScope sIsPoint) (by decide +kernel))
            (fun _ _ _ _ _ => pg_name (i := 2) scPoint.nd rfl (Or.inl rfl)) (fun _ _ _ _ _ => pts_nil)
            (fun _ _ _ _ _ => pe_meth (pv 0) T.cl mH GH hr bH .nil pass0 (pa_cons (pv 2) pa_nil))) pa_nil)))), ?_⟩
    cases sh with
    | non => exact ⟨.non, rfl, .non, .ty "tuple", _, _, false, rfl, .ty "tuple", .base .non, kit_ty (by decide +kernel : kitB "NoneType" "tuple" = some false), false, rfl, iteT (fin H (Same.refl _))⟩
    | bl b => exact ⟨.bl b, rfl, .bl b, .ty "tuple", _, _, false, rfl, .ty "tuple", .base (.bl b), kit_ty (by decide +kernel : kitB "bool" "tuple" = some false), false, rfl, iteT (fin H (Same.refl _))⟩
    | int i => exact ⟨.int i, rfl, .int i, .ty "tuple", _, _, false, rfl, .ty "tuple", .base (.int i), kit_ty (by decide +kernel : kitB "int" "tuple" = some false), false, rfl, iteT (fin H (Same.refl _))⟩
    | str y => exact ⟨.str y, rfl, .str y, .ty "tuple", _, _, false, rfl, .ty "tuple", .base (.str y), kit_ty (by decide +kernel : kitB "str" "tuple" = some false), false, rfl, iteT (fin H (Same.refl _))⟩
    | @lst a xs ds h1 h2 h3 => exact ⟨.ref a, rfl, .ref a, .ty "tuple", _, _, false, rfl, .ty "tuple", tyL h1, kit_ty (by decide +kernel : kitB "list" "tuple" = some false), false, rfl, iteT (fin H (Same.refl _))⟩
    | @dict a kvs ks vs h0 h1 h2 h3 => exact ⟨.ref a, rfl, .ref a, .ty "tuple", _, _, false, rfl, .ty "tuple", .base (.dK h1), kit_ty (by decide +kernel : kitB "dict" "tuple" = some false), false, rfl, iteT (fin H (Same.refl _))⟩
    | @tup a xs ds h1 h2 =>
      have hl := h2.length
      refine ⟨.ref a, rfl, .ref a, .ty "tuple", _, _, true, rfl, .ty "tuple", tyT h1, kit_ty (by decide +kernel : kitB "tuple" "tuple" = some true), true, rfl, iteF ?_⟩
      refine ⟨.ref a, rfl, a, xs, rfl, .inr h1, .int xs.length, _, true, rfl, .int _, _, rfl, ?_⟩
      have ce : countV (.int (xs.length : Nat)) = (decide (1 ≤ ds.length) && decide (ds.length ≤ 3)) := by
        show (decide ((1 : Int) ≤ (xs.length : Nat)) && decide (((xs.length : Nat) : Int) ≤ 3)) = _
        congr 1
        · rw [hl]
          by_cases z : 1 ≤ ds.length
          · rw [decide_eq_true z, decide_eq_true (by omega : (1 : Int) ≤ (ds.length : Nat))]
          · rw [decide_eq_false z, decide_eq_false (by omega : ¬ (1 : Int) ≤ (ds.length : Nat))]
        · rw [hl]
          by_cases z : ds.length ≤ 3
          · rw [decide_eq_true z, decide_eq_true (by omega : ((ds.length : Nat) : Int) ≤ 3)]
          · rw [decide_eq_false z, decide_eq_false (by omega : ¬ ((ds.length : Nat) : Int) ≤ 3)]
      rw [ce]
      have pe : pointD (fsts rows) (.tuple ds) = ((decide (1 ≤ ds.length) && decide (ds.length ≤ 3)) && ds.all (hasD (fsts rows))) := rfl
      cases cc : (decide (1 ≤ ds.length) && decide (ds.length ≤ 3)) with
      | false =>
        have := fin H (Same.refl _)
        rw [pe, cc, Bool.false_and] at this
        exact iteT this
      | true =>
        have cc2 : ds.length ≤ 3 := by
          have := (Bool.and_eq_true_iff.mp cc).2
          exact of_decide_eq_true this
        refine iteF ?_
        refine ⟨.ref a, rfl, a, rfl, ⟨_, h1⟩, fun D nD => ?_⟩
        refine lc_tup (xs := xs) (fun i H3 => H3 D = some (.lst ((ds.take i).map fun d => .bl (hasD (fsts rows) d))) ∧ Same H H3) ⟨upd_same, same_new nD⟩ (fun i H3 _ hP => sqT_same h1 hP.2) (fun i v H3 hv hP => ?_) (fun H3 hP => ?_)
        · obtain ⟨e1, s3⟩ := hP
          obtain ⟨di, hdi, shi⟩ := ShAll.get h2 hv
          have hH3 := hH.same s3
          obtain ⟨dx, r, q, u, rvs, kvs, g1, g2, g3, g4, g5, g6⟩ := hH3.ex
          refine ⟨rfl, .ref x, rfl, x, dx, _, rfl, g1, flds_no r q u (by decide +kernel) (by decide +kernel) (by decide +kernel), v, rfl, x, v, di, nd, rows, rfl, hH3, shi.same s3, fun H4 s4 => ?_⟩
          refine ⟨_, s4 _ _ e1, ?_, ?_, ?_⟩
          · rw [List.length_map, List.length_take]
            exact sz1 (by omega)
          · rw [upd_same, List.take_add_one, hdi, List.map_append]
            rfl
          · intro b o hb
            rw [upd_ne (ne_of_none hb nD)]
            exact s4 _ _ (s3 _ _ hb)
        · obtain ⟨e1, s3⟩ := hP
          have tk : ds.take xs.length = ds := List.take_of_length_le (by omega)
          rw [tk] at e1
          refine ⟨D, ds.map (hasD (fsts rows)), rfl, .inl (.inl (by rw [e1, List.map_map]; rfl)), ?_⟩
          rw [List.all_map]
          have := fin _ s3
          rw [pe, cc, Bool.true_and] at this
          exact this
end
end Lw
/-! The classes above a class by a walk backwards; all points. -/
namespace Kv
open PySem PySem.Spec PyProof.Rows L2
theorem keys_app (t1 t2 : Tab) : tabKeys (t1 ++ t2) = tabKeys t1 ++ tabKeys t2 := List.map_append
theorem look_left {t1 t2 : Tab} {x : Str} (h : x ∈ tabKeys t1) : look (t1 ++ t2) x = look t1 x := by
  induction t1 with
  | nil => cases h
  | cons p r ih =>
    obtain ⟨y, as⟩ := p
    unfold look at ih ⊢
    rw [List.cons_append, List.lookup_cons, List.lookup_cons]
    by_cases e : x = y
    · subst e
      rw [beq_self_eq_true]
    · rw [beq_eq_false_iff_ne.mpr e]
      refine ih ?_
      rcases List.mem_cons.mp h with z | z
      · exact absurd z e
      · exact z
theorem look_right {t1 t2 : Tab} {x : Str} (h : x ∉ tabKeys t1) : look (t1 ++ t2) x = look t2 x := by
  induction t1 with
  | nil => rfl
  | cons p r ih =>
    obtain ⟨y, as⟩ := p
    unfold look at ih ⊢
    have e : x ≠ y := fun z => h (z ▸ List.mem_cons_self ..)
    rw [List.cons_append, List.lookup_cons, beq_eq_false_iff_ne.mpr e]
    exact ih fun z => h (List.mem_cons_of_mem _ z)
/-- the classes above x -/
def Anc (rows : List Row2) (x : Str) : List Str := look (ancTab rows) x
theorem anc_more {rows : List Row2} {i : Nat} {x : Str} (h : x ∈ fsts (rows.take i)) : ∀ j, i ≤ j → Anc (rows.take j) x = Anc (rows.take i) x := by
  intro j hj
  induction j with
  | zero =>
    have : i = 0 := by omega
    rw [this]
  | succ j ih =>
    by_cases e : i = j + 1
    · rw [e]
    · have ih2 := ih (by omega)
      cases hr : rows[j]? with
      | none =>
        have : rows.take (j + 1) = rows.take j := by
          rw [List.take_add_one, hr]
          exact List.append_nil _
        rw [this]
        exact ih2
      | some r =>
        unfold Anc at ih2 ⊢
        rw [ancTab_take hr, look_left]
        · exact ih2
        · rw [ancTab_keys]
          have hs : rows.take i <+: rows.take j := by
            have : rows.take i = (rows.take j).take i := by
              rw [List.take_take, Nat.min_eq_left (by omega)]
            rw [this]
            exact List.take_prefix _ _
          unfold fsts at h ⊢
          exact (hs.map _).subset h
theorem anc_row {rows : List Row2} (v : Valid rows) {i : Nat} {n : Str} {ss : List Str} (h : rows[i]? = some (n, ss)) (x : Str) :
    x ∈ Anc rows n ↔ x = n ∨ ∃ s ∈ ss, x ∈ Anc rows s := by
  have il : i < rows.length := (List.getElem?_eq_some_iff.mp h).1
  obtain ⟨v1, v2, v3, v4⟩ := v i n ss h
  have hn : n ∈ fsts (rows.take (i + 1)) := by
    rw [List.take_add_one, h]
    unfold fsts
    rw [List.map_append]
    exact List.mem_append_right _ (List.mem_singleton.mpr rfl)
  have e1 : Anc rows n = ancOf (ancTab (rows.take i)) n ss := by
    have := anc_more hn rows.length (by omega)
    rw [List.take_length] at this
    rw [this]
    unfold Anc
    rw [ancTab_take h, look_right (by rw [ancTab_keys]; exact v2)]
    unfold look
    rw [List.lookup_cons, beq_self_eq_true]
    rfl
  rw [e1, mem_ancOf]
  constructor
  · rintro (z | ⟨s, hs, z⟩)
    · exact Or.inl z
    · refine Or.inr ⟨s, hs, ?_⟩
      have := anc_more (v4 s hs) rows.length (by omega)
      rw [List.take_length] at this
      rw [this]
      exact z
  · rintro (z | ⟨s, hs, z⟩)
    · exact Or.inl z
    · refine Or.inr ⟨s, hs, ?_⟩
      have := anc_more (v4 s hs) rows.length (by omega)
      rw [List.take_length] at this
      rw [this] at z
      exact z
theorem mem_row {rows : List Row2} {x : Str} (h : x ∈ fsts rows) : ∃ (i : Nat) (ss : List Str), rows[i]? = some (x, ss) := by
  obtain ⟨r, hr, rfl⟩ := List.mem_map.mp h
  obtain ⟨i, hi, e⟩ := List.getElem_of_mem hr
  exact ⟨i, r.2, by rw [List.getElem?_eq_getElem hi, e]⟩
theorem row_at {rows : List Row2} {j : Nat} {s : Str} (h : s ∈ fsts (rows.take j)) : ∃ (i : Nat) (ss : List Str), i < j ∧ rows[i]? = some (s, ss) := by
  obtain ⟨i, ss, e⟩ := mem_row h
  have hi := (List.getElem?_eq_some_iff.mp e).1
  rw [List.length_take] at hi
  rw [List.getElem?_take_of_lt (by omega)] at e
  exact ⟨i, ss, by omega, e⟩
theorem anc_trans {rows : List Row2} (v : Valid rows) {x y : Str} : ∀ (i : Nat) {n : Str} {ss : List Str}, rows[i]? = some (n, ss) → x ∈ Anc rows n → y ∈ Anc rows x → y ∈ Anc rows n := by
  intro i
  induction i using Nat.strongRecOn with
  | ind i ih =>
    intro n ss h hx hy
    rcases (anc_row v h x).mp hx with rfl | ⟨s, hs, hxs⟩
    · exact hy
    · obtain ⟨_, _, _, v4⟩ := v i n ss h
      obtain ⟨j, ts, hj, e⟩ := row_at (v4 s hs)
      exact (anc_row v h y).mpr (Or.inr ⟨s, hs, ih j hj e hxs hy⟩)
/-- one row of the walk backwards -/
def stepUp (found : List Str) (r : Row2) : List Str := if r.1 ∈ found then found ++ r.2.filter (fun e => decide (e ∉ found)) else found
def aboveAt (rows : List Row2) (label : Str) (j : Nat) : List Str := (rows.reverse.take j).foldl stepUp [label]
def aboveL (rows : List Row2) (label : Str) : List Str := aboveAt rows label rows.length
theorem above_next {rows : List Row2} {label : Str} {j : Nat} {r : Row2} (h : rows.reverse[j]? = some r) : aboveAt rows label (j + 1) = stepUp (aboveAt rows label j) r := by
  unfold aboveAt
  rw [List.take_add_one, h, List.foldl_append]
  rfl
theorem above_inv {rows : List Row2} (v : Valid rows) {label : Str} (hl : label ∈ fsts rows) : ∀ j, j ≤ rows.length →
    (∀ y ∈ aboveAt rows label j, y ∈ Anc rows label) ∧
    (∀ y ∈ Anc rows label, y ∈ aboveAt rows label j ∨ ∃ i z ss, i < rows.length - j ∧ rows[i]? = some (z, ss) ∧ z ∈ aboveAt rows label j ∧ y ∈ Anc rows z)
  | 0, _ => by
    obtain ⟨i, ss, e⟩ := mem_row hl
    have hi := (List.getElem?_eq_some_iff.mp e).1
    refine ⟨fun y hy => ?_, fun y hy => Or.inr ⟨i, label, ss, by omega, e, List.mem_singleton.mpr rfl, hy⟩⟩
    have : y = label := List.mem_singleton.mp hy
    rw [this]
    exact (anc_row v e label).mpr (Or.inl rfl)
  | j + 1, hj => by
    obtain ⟨S, C⟩ := above_inv v hl j (by omega)
    have hi : rows.length - 1 - j < rows.length := by omega
    have er : rows.reverse[j]? = some rows[rows.length - 1 - j] := by
      rw [List.getElem?_reverse (by omega), List.getElem?_eq_getElem hi]
    have eri : rows[rows.length - 1 - j]? = some rows[rows.length - 1 - j] := List.getElem?_eq_getElem hi
    generalize rows[rows.length - 1 - j] = r at er eri
    obtain ⟨n, ss⟩ := r
    obtain ⟨i0, s0, e0⟩ := mem_row hl
    rw [above_next er]
    have sub : ∀ y ∈ aboveAt rows label j, y ∈ stepUp (aboveAt rows label j) (n, ss) := by
      intro y hy
      unfold stepUp
      split
      · exact List.mem_append_left _ hy
      · exact hy
    refine ⟨fun y hy => ?_, fun y hy => ?_⟩
    · unfold stepUp at hy
      split at hy
      · rename_i hn
        rcases List.mem_append.mp hy with z | z
        · exact S y z
        · have hs : y ∈ ss := (List.mem_filter.mp z).1
          have hyn : y ∈ Anc rows n := by
            obtain ⟨_, _, _, v4⟩ := v _ n ss eri
            obtain ⟨k, ts, _, ek⟩ := row_at (v4 y hs)
            exact (anc_row v eri y).mpr (Or.inr ⟨y, hs, (anc_row v ek y).mpr (Or.inl rfl)⟩)
          exact anc_trans v i0 e0 (S n hn) hyn
      · exact S y hy
    · rcases C y hy with z | ⟨i, z, ts, h1, h2, h3, h4⟩
      · exact Or.inl (sub y z)
      · by_cases hlt : i < rows.length - (j + 1)
        · exact Or.inr ⟨i, z, ts, hlt, h2, sub z h3, h4⟩
        · have ei : i = rows.length - 1 - j := by omega
          subst ei
          rw [eri] at h2
          cases h2
          rcases (anc_row v eri y).mp h4 with rfl | ⟨s, hs, hys⟩
          · exact Or.inl (sub _ h3)
          · obtain ⟨_, _, _, v4⟩ := v _ n ss eri
            obtain ⟨k, us, hk, ek⟩ := row_at (v4 s hs)
            refine Or.inr ⟨k, s, us, by omega, ek, ?_, hys⟩
            unfold stepUp
            rw [if_pos h3]
            by_cases hin : s ∈ aboveAt rows label j
            · exact List.mem_append_left _ hin
            · exact List.mem_append_right _ (List.mem_filter.mpr ⟨hs, decide_eq_true hin⟩)
theorem mem_above {rows : List Row2} (v : Valid rows) {label : Str} (hl : label ∈ fsts rows) (y : Str) : y ∈ aboveL rows label ↔ y ∈ Anc rows label := by
  obtain ⟨S, C⟩ := above_inv v hl rows.length (Nat.le_refl _)
  constructor
  · exact S y
  · intro hy
    rcases C y hy with z | ⟨i, z, ss, h1, _⟩
    · exact z
    · omega
theorem above_len {rows : List Row2} {label : Str} (B : Nat) (hB : ∀ r ∈ rows, r.2.length ≤ B) : ∀ j, (aboveAt rows label j).length ≤ 1 + B * j
  | 0 => Nat.le_refl _
  | j + 1 => by
    have ih := above_len (label := label) B hB j
    cases h : rows.reverse[j]? with
    | none =>
      have : aboveAt rows label (j + 1) = aboveAt rows label j := by
        unfold aboveAt
        rw [List.take_add_one, h]
        show ((rows.reverse.take j) ++ []).foldl _ _ = _
        rw [List.append_nil]
      rw [this, Nat.mul_add]
      omega
    | some r =>
      rw [above_next h]
      have hr := hB r (List.mem_reverse.mp (List.mem_of_getElem? h))
      unfold stepUp
      split
      · rw [List.length_append, Nat.mul_add]
        have := List.length_filter_le (fun e => decide (e ∉ aboveAt rows label j)) r.2
        omega
      · rw [Nat.mul_add]
        omega
theorem above_head (rows : List Row2) (label : Str) : ∀ j, ∃ r, aboveAt rows label j = label :: r
  | 0 => ⟨[], rfl⟩
  | j + 1 => by
    obtain ⟨r, e⟩ := above_head rows label j
    cases h : rows.reverse[j]? with
    | none =>
      refine ⟨r, ?_⟩
      unfold aboveAt at e ⊢
      rw [List.take_add_one, h]
      show ((rows.reverse.take j) ++ []).foldl _ _ = _
      rw [List.append_nil]
      exact e
    | some q =>
      rw [above_next h, e]
      unfold stepUp
      split
      · exact ⟨_, rfl⟩
      · exact ⟨r, rfl⟩
/-! ### all points -/
def stepC (rows : List (List Str)) (names : List Str) : List (List Str) := rows.flatMap fun r => names.map fun n => r ++ [n]
def combos (choices : List (List Str)) : List (List Str) := choices.foldl stepC [[]]
theorem combos_snoc (cs : List (List Str)) (c : List Str) : combos (cs ++ [c]) = stepC (combos cs) c := by
  unfold combos
  rw [List.foldl_append]
  rfl
theorem combos_take {cs : List (List Str)} {i : Nat} {c : List Str} (h : cs[i]? = some c) : combos (cs.take (i + 1)) = stepC (combos (cs.take i)) c := by
  rw [List.take_add_one, h]
  exact combos_snoc ..
theorem foldC_len (k : Nat) : ∀ (cs : List (List Str)) (acc : List (List Str)), (∀ p ∈ acc, p.length = k) → ∀ p ∈ cs.foldl stepC acc, p.length = k + cs.length
  | [], _, h, p, hp => h p hp
  | c :: cs, acc, h, p, hp => by
    have := foldC_len (k + 1) cs (stepC acc c) (fun q hq => by
      obtain ⟨r, hr, hq2⟩ := List.mem_flatMap.mp hq
      obtain ⟨n, hn, rfl⟩ := List.mem_map.mp hq2
      rw [List.length_append, h r hr]
      rfl) p hp
    rw [this, List.length_cons]
    omega
theorem combos_len (cs : List (List Str)) : ∀ p ∈ combos cs, p.length = cs.length := fun p hp => by
  have := foldC_len 0 cs [[]] (fun p hp => by rw [List.mem_singleton.mp hp]; rfl) p hp
  omega
/-- what a point's classes are, place by place -/
theorem stepC_mem {rows : List (List Str)} {c : List Str} {p : List Str} : p ∈ stepC rows c ↔ ∃ r ∈ rows, ∃ n ∈ c, p = r ++ [n] := by
  unfold stepC
  rw [List.mem_flatMap]
  constructor
  · rintro ⟨r, hr, hp⟩
    obtain ⟨n, hn, rfl⟩ := List.mem_map.mp hp
    exact ⟨r, hr, n, hn, rfl⟩
  · rintro ⟨r, hr, n, hn, rfl⟩
    exact ⟨r, hr, List.mem_map.mpr ⟨n, hn, rfl⟩⟩
theorem foldC_all (q : Str → Prop) : ∀ (cs : List (List Str)) (acc : List (List Str)), (∀ p ∈ acc, ∀ x ∈ p, q x) → (∀ c ∈ cs, ∀ x ∈ c, q x) → ∀ p ∈ cs.foldl stepC acc, ∀ x ∈ p, q x
  | [], _, h, _, p, hp => h p hp
  | c :: cs, acc, h, hc, p, hp => by
    refine foldC_all q cs (stepC acc c) (fun r hr x hx => ?_) (fun d hd => hc d (List.mem_cons_of_mem _ hd)) p hp
    obtain ⟨r2, hr2, n, hn, rfl⟩ := stepC_mem.mp hr
    rcases List.mem_append.mp hx with z | z
    · exact h r2 hr2 x z
    · rw [List.mem_singleton.mp z]
      exact hc c (List.mem_cons_self ..) n hn
theorem combos_all (q : Str → Prop) {cs : List (List Str)} (hc : ∀ c ∈ cs, ∀ x ∈ c, q x) : ∀ p ∈ combos cs, ∀ x ∈ p, q x :=
  foldC_all q cs [[]] (fun p hp x hx => by rw [List.mem_singleton.mp hp] at hx; cases hx) hc
theorem stepC_length (rows : List (List Str)) (c : List Str) : (stepC rows c).length = rows.length * c.length := by
  unfold stepC
  induction rows with
  | nil => rw [List.flatMap_nil, List.length_nil, Nat.zero_mul]
  | cons r rs ih => rw [List.flatMap_cons, List.length_append, ih, List.length_map, List.length_cons, Nat.add_mul]; omega
/-- choosing among the filtered is filtering the chosen -/
def okZip (f : Str → Str → Bool) : List Str → List Str → Bool
  | [], _ => true
  | _, [] => true
  | a :: as, b :: bs => f a b && okZip f as bs
theorem okZip_snoc (f : Str → Str → Bool) (a b : Str) : ∀ (as bs : List Str), as.length = bs.length → okZip f (as ++ [a]) (bs ++ [b]) = (okZip f as bs && f a b)
  | [], [], _ => by simp [okZip]
  | x :: as, y :: bs, h => by
    have := okZip_snoc f a b as bs (by simpa using h)
    simp [okZip, this, Bool.and_assoc]
  | [], _ :: _, h => by simp at h
  | _ :: _, [], h => by simp at h
theorem step_filter (f : Str → Str → Bool) (names : List Str) (o : Str) (os : List Str) (rows : List (List Str)) (h : ∀ r ∈ rows, r.length = os.length) :
    (stepC rows names).filter (okZip f · (os ++ [o])) = stepC (rows.filter (okZip f · os)) (names.filter (f · o)) := by
  unfold stepC
  induction rows with
  | nil => rfl
  | cons r rs ih =>
    rw [List.flatMap_cons, List.filter_append, ih fun q hq => h q (List.mem_cons_of_mem _ hq)]
    have hr : r.length = os.length := h r (List.mem_cons_self ..)
    have e : (names.map fun n => r ++ [n]).filter (okZip f · (os ++ [o])) = if okZip f r os then (names.filter (f · o)).map fun n => r ++ [n] else [] := by
      clear ih
      induction names with
      | nil => simp
      | cons n ns ihn =>
        rw [List.map_cons, List.filter_cons, okZip_snoc f n o r os hr, ihn, List.filter_cons]
        cases okZip f r os <;> cases f n o <;> simp
    rw [e, List.filter_cons]
    cases okZip f r os
    · simp
    · simp
theorem combos_filter (f : Str → Str → Bool) (names : List Str) : ∀ (k : Nat) (pt : List Str), pt.length = k →
    combos (pt.map fun o => names.filter (f · o)) = (combos (List.replicate k names)).filter (okZip f · pt)
  | 0, pt, h => by
    cases pt with
    | nil => rfl
    | cons a b => simp at h
  | k + 1, pt, h => by
    have hne : pt ≠ [] := fun z => by rw [z] at h; cases h
    have e : pt = pt.dropLast ++ [pt.getLast hne] := (List.dropLast_concat_getLast hne).symm
    generalize pt.getLast hne = o at e
    have hl : pt.dropLast.length = k := by rw [List.length_dropLast]; omega
    generalize pt.dropLast = os at e hl
    subst e
    rw [List.map_append, List.map_cons, List.map_nil, combos_snoc, combos_filter f names k os hl, List.replicate_succ', combos_snoc, step_filter f names o os]
    intro r hr
    rw [combos_len _ r hr, List.length_replicate, hl]
end Kv
/-! names, require_class, descendants. -/
namespace Lw
open PySem PySem.Spec PyProof.Rows L2 Kv
theorem scNmL : FnScope ["self"] ["self"] (defScope m_names) :=
  ⟨rfl, rfl, rfl, by decide +kernel, rfl, by decide +kernel, by decide +kernel⟩
theorem scRC : FnScope ["self", "value"] ["self", "value"] (defScope m_require_class) :=
  ⟨rfl, rfl, rfl, by decide +kernel, rfl, by decide +kernel, by decide +kernel⟩
theorem place_keys (ns : List Str) : (placeKV ns).map (fun kv => kV kv.1) = ns.map V.str := by
  unfold placeKV
  rw [List.map_map]
  have : ∀ (l : List Str) (k : Nat), (l.zipIdx k).map ((fun kv : Key × V => kV kv.1) ∘ fun p => ((Sum.inr p.1 : Key), V.int p.2)) = l.map V.str := by
    intro l
    induction l with
    | nil => intro k; rfl
    | cons x r ih =>
      intro k
      rw [List.zipIdx_cons, List.map_cons, List.map_cons, ih]
      rfl
  exact this ns 0
theorem fstsL (rows : List Row2) : (fsts rows).length = rows.length := List.length_map ..
theorem get_str {xs : List Str} {i : Nat} {v : V} (hv : (xs.map V.str)[i]? = some v) : ∃ x, xs[i]? = some x ∧ v = .str x := by
  rw [List.getElem?_map] at hv
  cases hz : xs[i]? with
  | none =>
    rw [hz] at hv
    cases hv
  | some x =>
    rw [hz] at hv
    exact ⟨x, rfl, (Option.some.inj hv).symm⟩
section
variable {P : Program} {w : World} {K : PySem.W.Frag} {mg : Str → Option Value} {base : Heap}
def spNmL (C : Addr) : Sp := fun vs H Q _ => ∃ (x : Addr) (rows : List Row2), vs = [.ref x] ∧ HierAt C H x rows ∧
  ∀ D, H D = none → Q (.ref D) (upd H D (.lst ((fsts rows).map V.str)))
theorem ok_nmL {f C : Addr} {fd : FuncData} {k : Nat} (F : Fun K "names" "Hierarchy.names" m_names f fd) (T : HTxt K mg C) (mL : mg "list" = none) :
    FnOk P w K mg base CX0 (k + 1) f fd ["self"] (spNmL C) := by
  refine F.ok scNmL (fun vs H Q E h => ?_) (fun cdv A outer s H vs Q E hr h => ?_)
  · obtain ⟨x, rows, rfl, _⟩ := h
    rfl
  · obtain ⟨x, rows, rfl, ⟨dx, r, q, u, rvs, kvs, h1, h2, h3, h4, h5, h6⟩, fin⟩ := h
    refine ⟨_, pss_one (ps_ret (pe_callTy (call_list_dK rfl) (by rfl) mL (by decide +kernel) (pa_cons (pe_fld (pv 0) rfl) pa_nil))), ?_⟩
    refine ⟨.ref x, rfl, x, C, dx, _, _, rfl, h1, T.cl, T.nP, flds_places r q u, q, _, rfl, h4, fun D nD => ?_⟩
    rw [place_keys]
    exact fin D nD
def spRC (C : Addr) : Sp := fun vs H Q _ => ∃ (x : Addr) (y : Str) (rows : List Row2), vs = [.ref x, .str y] ∧ HierAt C H x rows ∧ y ∈ fsts rows ∧ ∀ H', Same H H' → Q .non H'
theorem ok_rc {f fH C : Addr} {fd fdH : FuncData} {k : Nat} (F : Fun K "require_class" "Hierarchy.require_class" m_require_class f fd) (T : HTxt K mg C)
    (mH : Meth K C "has_class" fH) (bH : Binds K fdH ["self", "value"] []) (GH : FnOk P w K mg base CX0 (k + 1) fH fdH ["self", "value"] (spHas K C)) :
    FnOk P w K mg base CX0 (k + 2) f fd ["self", "value"] (spRC C) := by
  refine F.ok scRC (fun vs H Q E h => ?_) (fun cdv A outer s H vs Q E hr h => ?_)
  · obtain ⟨x, y, rows, rfl, _⟩ := h
    rfl
  · obtain ⟨x, y, rows, rfl, hH, hy, fin⟩ := h
    refine ⟨_, pss_one (ps_if (pt_not (pt_val (pe_meth (pv 0) T.cl mH GH hr bH .nil pass0 (pa_cons (pv 1) pa_nil)))) (pss_one ps_never) pss_nil), ?_⟩
    obtain ⟨dx, r, q, u, rvs, kvs, g1, g2, g3, g4, g5, g6⟩ := hH.ex
    refine ⟨.ref x, rfl, x, dx, _, rfl, g1, flds_no r q u (by decide +kernel) (by decide +kernel) (by decide +kernel), .str y, rfl, x, .str y, .str y, true, rows, rfl, hH, .str y, fun H2 s2 => ?_⟩
    have : hasD (fsts rows) (.str y) = true := decide_eq_true hy
    rw [this]
    exact ⟨true, rfl, iteF (fin H2 s2)⟩
end
end Lw
/-! Points in the heap; comprehensions with two loops. -/
namespace Kv
open PySem PySem.Spec PyProof.Rows L2
/-- the i-th of one belongs to the i-th of the other -/
theorem pair_get {α β : Type} {R : α → β → Prop} : ∀ {as : List α} {bs : List β} {i : Nat} {a : α}, Paired R as bs → as[i]? = some a → ∃ b, bs[i]? = some b ∧ R a b
  | _, _, _, _, .nil, e => by simp at e
  | _, _, 0, _, .cons h _, e => by
    simp at e
    subst e
    exact ⟨_, rfl, h⟩
  | _, _, i + 1, a, .cons _ t, e => by
    obtain ⟨b, h1, h2⟩ := pair_get (i := i) (a := a) t (by simpa using e)
    exact ⟨b, by simpa using h1, h2⟩
theorem pair_get2 {α β : Type} {R : α → β → Prop} : ∀ {as : List α} {bs : List β} {i : Nat} {b : β}, Paired R as bs → bs[i]? = some b → ∃ a, as[i]? = some a ∧ R a b
  | _, _, _, _, .nil, e => by simp at e
  | _, _, 0, _, .cons h _, e => by
    simp at e
    subst e
    exact ⟨_, rfl, h⟩
  | _, _, i + 1, b, .cons _ t, e => by
    obtain ⟨a, h1, h2⟩ := pair_get2 (i := i) (b := b) t (by simpa using e)
    exact ⟨a, by simpa using h1, h2⟩
theorem pair_snoc {α β : Type} {R : α → β → Prop} : ∀ {as : List α} {bs : List β} {a : α} {b : β}, Paired R as bs → R a b → Paired R (as ++ [a]) (bs ++ [b])
  | _, _, _, _, .nil, h => .cons h .nil
  | _, _, _, _, .cons p q, h => .cons p (pair_snoc q h)
theorem pair_app {α β : Type} {R : α → β → Prop} : ∀ {as cs : List α} {bs ds : List β}, Paired R as bs → Paired R cs ds → Paired R (as ++ cs) (bs ++ ds)
  | _, _, _, _, .nil, h => h
  | _, _, _, _, .cons p q, h => .cons p (pair_app q h)
/-- the tuple of these texts -/
def PtAt (H : Hp) (v : V) (p : List Str) : Prop := ∃ t, v = .ref t ∧ H t = some (.tup (p.map V.str))
def Pts (H : Hp) : List V → List (List Str) → Prop := Paired (PtAt H)
theorem PtAt.same {H H' : Hp} {v : V} {p : List Str} (s : Same H H') (h : PtAt H v p) : PtAt H' v p := by
  obtain ⟨t, e, h⟩ := h
  exact ⟨t, e, s _ _ h⟩
theorem PtAt.but {H H' : Hp} {q : Addr} {zs : List V} {v : V} {p : List Str} (hq : H q = some (.lst zs)) (b : But q H H') (h : PtAt H v p) : PtAt H' v p := by
  obtain ⟨t, e, h⟩ := h
  exact ⟨t, e, b _ _ (ne_of h hq (by intro z; cases z)) h⟩
theorem PtAt.wr {H : Hp} {q : Addr} {zs : List V} {o : HO} {v : V} {p : List Str} (hq : H q = some (.lst zs)) (h : PtAt H v p) : PtAt (upd H q o) v p := by
  obtain ⟨t, e, h⟩ := h
  exact ⟨t, e, by rw [upd_ne (ne_of h hq (by intro z; cases z))]; exact h⟩
theorem Pts.same {H H' : Hp} {vs : List V} {ps : List (List Str)} (s : Same H H') (h : Pts H vs ps) : Pts H' vs ps := Paired.mapP h fun _ _ z => z.same s
theorem Pts.but {H H' : Hp} {q : Addr} {zs : List V} {vs : List V} {ps : List (List Str)} (hq : H q = some (.lst zs)) (b : But q H H') (h : Pts H vs ps) : Pts H' vs ps := Paired.mapP h fun _ _ z => z.but hq b
theorem Pts.wr {H : Hp} {q : Addr} {zs : List V} {o : HO} {vs : List V} {ps : List (List Str)} (hq : H q = some (.lst zs)) (h : Pts H vs ps) : Pts (upd H q o) vs ps := Paired.mapP h fun _ _ z => z.wr hq
theorem Pts.length {H : Hp} {vs : List V} {ps : List (List Str)} (h : Pts H vs ps) : vs.length = ps.length := Paired.length h
/-- shown -/
def ptD (p : List Str) : PyData := .tuple (p.map PyData.str)
def ptsD (ps : List (List Str)) : PyData := .list (ps.map ptD)
theorem sh_strs {K : PySem.W.Frag} {nd : Bool} {H : Hp} : ∀ p : List Str, ShAll K nd H (p.map V.str) (p.map PyData.str)
  | [] => .nil
  | x :: r => .cons (.str x) (sh_strs r)
theorem PtAt.sh {K : PySem.W.Frag} {nd : Bool} {H : Hp} {v : V} {p : List Str} (h : PtAt H v p) : Sh K nd H v (ptD p) := by
  obtain ⟨t, rfl, h⟩ := h
  exact .tup (.inl (.inl h)) (sh_strs p)
theorem Pts.sh {K : PySem.W.Frag} {nd : Bool} {H : Hp} : ∀ {vs : List V} {ps : List (List Str)}, Pts H vs ps → ShAll K nd H vs (ps.map ptD)
  | _, _, .nil => .nil
  | _, _, .cons h t => .cons h.sh (Pts.sh t)
theorem fit_strs : ∀ p : List Str, (∀ x ∈ p, Sm 8 x) → FitAll (9 * p.length) 0 (p.map PyData.str)
  | [], _ => fitAll_nil
  | x :: r, h => by
    have := FitAll.cons (h x (List.mem_cons_self ..)).fit (fit_strs r fun y hy => h y (List.mem_cons_of_mem _ hy))
    refine this.mono ?_ (Nat.le_refl _)
    rw [List.length_cons]
    omega
theorem fit_pts (k : Nat) : ∀ ps : List (List Str), (∀ p ∈ ps, p.length ≤ k ∧ ∀ x ∈ p, Sm 8 x) → FitAll ((9 * k + 1) * ps.length) 1 (ps.map ptD)
  | [], _ => fitAll_nil
  | p :: r, h => by
    obtain ⟨h1, h2⟩ := h p (List.mem_cons_self ..)
    have hp : Fit (9 * k) 1 (ptD p) := (Fit.tup (fit_strs p h2)).mono (Nat.mul_le_mul_left 9 h1) (Nat.le_refl _)
    have := FitAll.cons hp (fit_pts k r fun y hy => h y (List.mem_cons_of_mem _ hy))
    refine this.mono ?_ (Nat.le_refl _)
    rw [List.length_cons, Nat.mul_add]
    omega
/-- lists of texts -/
def LsAt (H : Hp) (v : V) (l : List Str) : Prop := ∃ a, v = .ref a ∧ H a = some (.lst (l.map V.str))
theorem LsAt.same {H H' : Hp} {v : V} {p : List Str} (s : Same H H') (h : LsAt H v p) : LsAt H' v p := by
  obtain ⟨t, e, h⟩ := h
  exact ⟨t, e, s _ _ h⟩
section
variable {J : It} {n : Nat} {G : Hp → Prop} {Y : Nat → Hp → V → Hp → Prop}
/-- the outer loop -/
theorem out_it (w : Walk J n G Y) {M : Nat → (Hp → Prop) → V → Hp → Prop} {H0 : Hp} {Qd : Hp → Prop} (Pv : Nat → Hp → Prop) (h0 : Pv 0 H0) (hG : ∀ i H, i ≤ n → Pv i H → G H)
    (hs : ∀ i x H H', i < n → Pv i H → Y i H x H' → M i (Pv (i + 1)) x H') (hd : ∀ H, Pv n H → Qd H) :
    ∃ W : Nat → Nat → Hp → Prop, (∃ m, W 0 m H0) ∧ ∀ i m H, W i m H → (J.stop i H ∧ Qd H) ∨ (J.go i H ∧ ∃ Nx : Hp → Prop, (∀ H', Nx H' → ∃ m', m' < m ∧ W (i + 1) m' H') ∧ ∀ x H', J.yld i H x H' → M i Nx x H') := by
  refine ⟨fun i m H => m + i = n ∧ Pv i H, ⟨n, rfl, h0⟩, fun i m H hW => ?_⟩
  obtain ⟨e, p⟩ := hW
  have hG2 := hG i H (by omega) p
  by_cases hlt : i < n
  · refine Or.inr ⟨w.goes i H hlt hG2, Pv (i + 1), fun H' p' => ⟨m - 1, by omega, by omega, p'⟩, fun x H' y => ?_⟩
    exact hs i x H H' hlt p (w.yields i H x H' hlt hG2 y)
  · have e2 : i = n := by omega
    rw [e2] at p
    exact Or.inl ⟨by rw [e2]; exact w.stops H hG2, hd H p⟩
end
end Kv
/-! require_point, combinations. -/
namespace Lw
open PySem PySem.Spec PyProof.Rows L2 Kv
theorem scReq : FnScope ["hierarchy", "value"] ["hierarchy", "value"] (defScope sReq) :=
  ⟨rfl, rfl, rfl, by decide +kernel, rfl, by decide +kernel, by decide +kernel⟩
abbrev NComb : List Str := ["choices", "rows", "names", "row", "name"]
theorem scComb : FnScope NComb ["choices"] (defScope sComb) :=
  ⟨rfl, rfl, rfl, by decide +kernel, rfl, by decide +kernel, by decide +kernel⟩
section
variable {P : Program} {w : World} {K : PySem.W.Frag} {mg : Str → Option Value} {base : Heap}
/-- a point of the hierarchy -/
def IsPt (rows : List Row2) (p : List Str) : Prop := 1 ≤ p.length ∧ p.length ≤ 3 ∧ ∀ y ∈ p, y ∈ fsts rows
theorem pointD_pt {rows : List Row2} {p : List Str} (h : IsPt rows p) : pointD (fsts rows) (ptD p) = true := by
  obtain ⟨h1, h2, h3⟩ := h
  show ((decide (1 ≤ (p.map PyData.str).length) && decide ((p.map PyData.str).length ≤ 3)) && (p.map PyData.str).all (hasD (fsts rows))) = true
  rw [List.length_map, decide_eq_true h1, decide_eq_true h2, List.all_map]
  show p.all _ = true
  rw [List.all_eq_true]
  intro y hy
  exact decide_eq_true (h3 y hy)
def spReq (C : Addr) : Sp := fun vs H Q _ => ∃ (x : Addr) (v : V) (p : List Str) (rows : List Row2), vs = [.ref x, v] ∧ HierAt C H x rows ∧ PtAt H v p ∧ IsPt rows p ∧ ∀ H', Same H H' → Q .non H'
theorem ok_req {f fP C : Addr} {fd fdP : FuncData} {k : Nat} (F : Fun K "require_point" "require_point" sReq f fd)
    (FP : Fun K "is_point" "is_point" sIsPoint fP fdP) (bP : Binds K fdP ["hierarchy", "value"] []) (gP : mg "is_point" = some (.ref fP))
    (GP : FnOk P w K mg base CX0 (k + 1) fP fdP ["hierarchy", "value"] (spPoint K C)) :
    FnOk P w K mg base CX0 (k + 2) f fd ["hierarchy", "value"] (spReq C) := by
  refine F.ok scReq (fun vs H Q E h => ?_) (fun cdv A outer s H vs Q E hr h => ?_)
  · obtain ⟨x, v, p, rows, rfl, _⟩ := h
    rfl
  · obtain ⟨x, v, p, rows, rfl, hH, hp, hi, fin⟩ := h
    refine ⟨_, pss_one (ps_if (pt_not (pt_val (pe_call GP hr (by rfl) gP FP.kp bP .nil pass0 (pa_cons (pv 0) (pa_cons (pv 1) pa_nil))))) (pss_one ps_never) pss_nil), ?_⟩
    refine ⟨.ref x, rfl, v, rfl, x, v, ptD p, true, rows, rfl, hH, hp.sh, fun H2 s2 => ?_⟩
    rw [pointD_pt hi]
    exact ⟨true, rfl, iteF (fin H2 s2)⟩
def spComb : Sp := fun vs H Q _ => ∃ (c : Addr) (cvs : List V) (cs : List (List Str)), vs = [.ref c] ∧ H c = some (.lst cvs) ∧ Paired (LsAt H) cvs cs ∧ cs.length ≤ 100 ∧
  (∀ i, i ≤ cs.length → (combos (cs.take i)).length ≤ 8000) ∧
  ∀ H' D ts, Same H H' → H D = none → H' D = some (.lst ts) → Pts H' ts (combos cs) → Q (.ref D) H'
theorem stepC_at {rows : List (List Str)} {c : List Str} {i j : Nat} {r : List Str} {n : Str} (hi : rows[i]? = some r) (hj : c[j]? = some n) :
    stepC (rows.take i) c ++ (c.take (j + 1)).map (fun n => r ++ [n]) = (stepC (rows.take i) c ++ (c.take j).map (fun n => r ++ [n])) ++ [r ++ [n]] := by
  rw [List.take_add_one, hj, List.map_append, List.append_assoc]
  rfl
theorem stepC_nx {rows : List (List Str)} {c : List Str} {i : Nat} {r : List Str} (hi : rows[i]? = some r) :
    stepC (rows.take i) c ++ c.map (fun n => r ++ [n]) = stepC (rows.take (i + 1)) c := by
  unfold stepC
  rw [List.take_add_one, hi, List.flatMap_append]
  show _ = _ ++ [r].flatMap _
  rw [List.flatMap_cons, List.flatMap_nil, List.append_nil]
theorem stepC_le {rows : List (List Str)} {c : List Str} {i j : Nat} {r : List Str} (hi : rows[i]? = some r) (hj : j < c.length) :
    (stepC (rows.take i) c ++ (c.take j).map (fun n => r ++ [n])).length < rows.length * c.length := by
  have hil := (List.getElem?_eq_some_iff.mp hi).1
  rw [List.length_append, stepC_length, List.length_map, List.length_take, List.length_take, Nat.min_eq_left (by omega), Nat.min_eq_left (by omega)]
  have : (i + 1) * c.length ≤ rows.length * c.length := Nat.mul_le_mul_right _ hil
  rw [Nat.add_mul] at this
  omega
theorem ok_comb {f : Addr} {fd : FuncData} {k : Nat} (F : Fun K "combinations" "combinations" sComb f fd) :
    FnOk P w K mg base CX0 (k + 1) f fd ["choices"] spComb := by
  refine F.ok scComb (fun vs H Q E h => ?_) (fun cdv A outer s H vs Q E hr h => ?_)
  · obtain ⟨c, cvs, cs, rfl, _⟩ := h
    rfl
  · obtain ⟨c, cvs, cs, rfl, hc, hcs, hcl, hb, fin⟩ := h
    refine ⟨_, pss_cons (ps_set (i := 1) scComb.nd rfl (.inl rfl) (pe_lst (pa_cons (pe_tup pa_nil) pa_nil)))
      (pss_cons (ps_for PassesOwn.never rfl (pi_list (pv 0)) (pg_name (i := 2) scComb.nd rfl (.inr rfl))
        (pss_one (ps_setLc2 (i := 1) (own := [("row", 3), ("name", 4)]) (vs1 := [4]) (g := gName 3) (g1 := gName 4) (tt := tYes) (tt1 := tYes) (wi1 := iList K (tVar 2)) (te := tTup (StX.tStar K (tVar 3) (tCons (tVar 4) tNil))) rfl scComb.nd rfl rfl
            (sw_true rfl rfl rfl (by decide +kernel)) (pi_list (pv 1))
            (blkOk_by (own := [("row", 3), ("name", 4)]) (N := NComb) (sc := defScope sComb) (by decide +kernel)) (by decide)
            (fun _ _ _ _ _ => pg_name (i := 3) scComb.nd rfl (Or.inl rfl)) (fun _ _ _ _ _ => pts_nil)
            (fun _ _ _ _ _ => pi_list (pv 2)) (fun _ _ _ _ _ => pg_name (i := 4) scComb.nd rfl (Or.inl rfl)) (fun _ _ _ _ _ => pts_nil)
            (fun _ _ _ _ _ => pe_tup (StX.pa_star (pv 3) (pa_cons (pv 4) pa_nil))))))
      (pss_one (ps_ret (pv 1)))), ?_⟩
    refine ⟨(by decide : 0 ≤ sizeLine), fun t0 nt0 => ⟨(by decide : 1 ≤ sizeLine), fun R0 nR0 => ?_⟩⟩
    have q1 := same_new (o := .tup []) nt0
    have q2 := same_new (o := .lst [.ref t0]) nR0
    refine ⟨.ref c, rfl, c, rfl, ⟨_, .inl (.inl ((q1.trans q2) _ _ hc))⟩, ?_⟩
    refine for_list (xs := cvs) (fun i σ H3 => ∃ (R : Addr) (y2 : Option V) (ts : List V), σ = [some (.ref c), some (.ref R), y2, none, none] ∧ Same H H3 ∧ H R = none ∧ H3 R = some (.lst ts) ∧ Pts H3 ts (combos (cs.take i)))
      ⟨R0, none, [.ref t0], rfl, q1.trans q2, q1.free nR0, upd_same, .cons ⟨t0, rfl, q2 _ _ upd_same⟩ .nil⟩ (fun i σ H3 _ hP => ?_) (fun i v σ H3 hv hP => ?_) (fun σ H3 hP => ?_)
    · obtain ⟨_, _, _, _, s3, _⟩ := hP
      exact .inl (.inl (s3 _ _ hc))
    · obtain ⟨R, y2, ts, rfl, s3, nR, eR, hts⟩ := hP
      obtain ⟨l, hl, a, rfl, ha⟩ := pair_get hcs hv
      have hil : i < cs.length := (List.getElem?_eq_some_iff.mp hl).1
      have ht := combos_take hl
      have hbi := hb (i + 1) (by omega)
      rw [ht, stepC_length] at hbi
      refine ⟨.ref R, rfl, R, rfl, ⟨_, .inl (.inl eR)⟩, fun D nD => ?_⟩
      have tl := hts.length
      generalize hcm : combos (cs.take i) = cm at *
      refine out_it (walk_list (xs := ts)) (fun i' H6 => ∃ acc, H6 D = some (.lst acc) ∧ Same H3 H6 ∧ Pts H6 acc (stepC (cm.take i') l)) ⟨[], upd_same, same_new nD, .nil⟩ (fun i' H6 _ hP => ?_) (fun i' x H6 H6' hi' hP hY => ?_) (fun H6 hP => ?_)
      · obtain ⟨_, _, s6, _⟩ := hP
        exact .inl (.inl (s6 _ _ eR))
      · obtain ⟨rfl, hx⟩ := hY
        obtain ⟨acc, eD, s6, hacc⟩ := hP
        obtain ⟨r, hr2, t, rfl, htt⟩ := pair_get hts hx
        have rl : r.length ≤ 100 := by
          have := combos_len (cs.take i) r (by rw [hcm]; exact List.mem_of_getElem? hr2)
          rw [this, List.length_take]
          omega
        refine ⟨rfl, .ref a, rfl, a, rfl, ⟨_, .inl (.inl (s6 _ _ (s3 _ _ ha)))⟩, ?_⟩
        refine out_it (walk_list (xs := l.map V.str)) (fun j H8 => ∃ acc, H8 D = some (.lst acc) ∧ Same H3 H8 ∧ Pts H8 acc (stepC (cm.take i') l ++ (l.take j).map (fun n => r ++ [n]))) ⟨acc, eD, s6, by rw [List.take_zero, List.map_nil, List.append_nil]; exact hacc⟩ (fun j H8 _ hP => ?_) (fun j y H8 H8' hj hP hY => ?_) (fun H8 hP => ?_)
        · obtain ⟨_, _, s8, _⟩ := hP
          exact .inl (.inl (s8 _ _ (s3 _ _ ha)))
        · obtain ⟨rfl, hy⟩ := hY
          obtain ⟨n, hn, rfl⟩ := get_str hy
          obtain ⟨acc8, eD8, s8, hacc8⟩ := hP
          have hjl : j < l.length := (List.getElem?_eq_some_iff.mp hn).1
          refine ⟨rfl, .ref t, rfl, t, r.map V.str, rfl, .inl (.inl (.inl (s8 _ _ htt))), .str n, rfl, ?_, fun u nu => ?_⟩
          · rw [List.length_append, List.length_map]
            exact sz1 (by
              have : [V.str n].length = 1 := rfl
              omega)
          · have su := same_new (o := .tup (r.map V.str ++ [.str n])) nu
            have le := stepC_le (c := l) hr2 hjl
            refine ⟨acc8, su _ _ eD8, ?_, ?_⟩
            · rw [hacc8.length]
              exact szle (n := _ + 1) (by omega)
            · refine ⟨_, upd_same, ?_, ?_⟩
              · intro b o hb
                rw [upd_ne (ne_of_none hb nD)]
                exact su _ _ (s8 _ _ hb)
              · rw [stepC_at hr2 hn]
                refine pair_snoc ((hacc8.same su).wr (su _ _ eD8)) (PtAt.wr (su _ _ eD8) ⟨u, rfl, ?_⟩)
                rw [upd_same, List.map_append]
                rfl
        · obtain ⟨acc8, eD8, s8, hacc8⟩ := hP
          rw [List.length_map, List.take_length, stepC_nx hr2] at hacc8
          exact ⟨acc8, eD8, s8, hacc8⟩
      · obtain ⟨acc, eD, s6, hacc⟩ := hP
        rw [tl, List.take_length] at hacc
        exact ⟨D, _, acc, rfl, s3.trans s6, s3.free nD, eD, by rw [ht]; exact hacc⟩
    · obtain ⟨R, y2, ts, rfl, s3, nR, eR, hts⟩ := hP
      rw [Paired.length hcs, List.take_length] at hts
      exact ⟨.ref R, rfl, fin H3 R ts s3 nR eR hts⟩
theorem scAllP : FnScope ["hierarchy", "count"] ["hierarchy", "count"] (defScope sAllPts) :=
  ⟨rfl, rfl, rfl, by decide +kernel, rfl, by decide +kernel, by decide +kernel⟩
/-- no more points than can be listed -/
def Few (rows : List Row2) (k : Nat) : Prop := ∀ i, i ≤ k → rows.length ^ i ≤ 8000
theorem rep_len (c : List Str) : ∀ i, (combos (List.replicate i c)).length = c.length ^ i
  | 0 => rfl
  | i + 1 => by rw [List.replicate_succ', combos_snoc, stepC_length, rep_len c i, Nat.pow_succ]
theorem rep_flat (v : V) : ∀ n, (List.replicate n [v]).flatten = List.replicate n v
  | 0 => rfl
  | n + 1 => by
    rw [List.replicate_succ, List.flatten_cons, rep_flat v n, List.replicate_succ]
    rfl
theorem pair_rep {α β : Type} {R : α → β → Prop} {a : α} {b : β} (h : R a b) : ∀ n, Paired R (List.replicate n a) (List.replicate n b)
  | 0 => .nil
  | n + 1 => .cons h (pair_rep h n)
theorem pair_keep {α β : Type} {R R' : α → β → Prop} {ok : α → Prop} (k : ∀ a b, R a b → ok a → R' a b) : ∀ {as : List α} {bs : List β}, Paired R as bs → (∀ a ∈ as, ok a) → Paired R' as bs
  | _, _, .nil, _ => .nil
  | _, _, .cons h t, ho => .cons (k _ _ h (ho _ (List.mem_cons_self ..))) (pair_keep k t fun a ha => ho a (List.mem_cons_of_mem _ ha))
def spAllP (C : Addr) : Sp := fun vs H Q _ => ∃ (x : Addr) (k : Nat) (rows : List Row2), vs = [.ref x, .int k] ∧ HierAt C H x rows ∧ 1 ≤ k ∧ k ≤ 3 ∧ Few rows k ∧
  ∀ H' D ts, Same H H' → H D = none → H' D = some (.lst ts) → Pts H' ts (combos (List.replicate k (fsts rows))) → Q (.ref D) H'
theorem ok_allP {f fC fB fN C : Addr} {fd fdC fdB fdN : FuncData} {k : Nat} (F : Fun K "all_points" "all_points" sAllPts f fd) (T : HTxt K mg C)
    (FC : Fun K "is_parameter_count" "is_parameter_count" sIsCount fC fdC) (bC : Binds K fdC ["value"] []) (gC : mg "is_parameter_count" = some (.ref fC))
    (FB : Fun K "combinations" "combinations" sComb fB fdB) (bB : Binds K fdB ["choices"] []) (gB : mg "combinations" = some (.ref fB))
    (mN : Meth K C "names" fN) (bN : Binds K fdN ["self"] []) (GN : FnOk P w K mg base CX0 (k + 1) fN fdN ["self"] (spNmL C))
    (GC : FnOk P w K mg base CX0 (k + 1) fC fdC ["value"] (spCount K)) (GB : FnOk P w K mg base CX0 (k + 1) fB fdB ["choices"] spComb) :
    FnOk P w K mg base CX0 (k + 2) f fd ["hierarchy", "count"] (spAllP C) := by
  refine F.ok scAllP (fun vs H Q E h => ?_) (fun cdv A outer s H vs Q E hr h => ?_)
  · obtain ⟨x, n, rows, rfl, _⟩ := h
    rfl
  · obtain ⟨x, n, rows, rfl, hH, n1, n3, few, fin⟩ := h
    refine ⟨_, pss_cons (ps_if (pt_not (pt_val (pe_call GC hr (by rfl) gC FC.kp bC .nil pass0 (pa_cons (pv 1) pa_nil)))) (pss_one ps_never) pss_nil)
      (pss_one (ps_ret (pe_call GB hr (by rfl) gB FB.kp bB .nil pass0 (pa_cons (pe_op op_rep (pe_lst (pa_cons (pe_meth0 (pv 0) T.cl mN GN hr bN .nil pass0) pa_nil)) (pv 1)) pa_nil)))), ?_⟩
    refine ⟨.int n, rfl, .int n, _, true, rfl, .int _, ?_⟩
    have : countV (.int (n : Nat)) = true := by
      show (decide ((1 : Int) ≤ (n : Nat)) && decide (((n : Nat) : Int) ≤ 3)) = true
      rw [decide_eq_true (by omega : (1 : Int) ≤ (n : Nat)), decide_eq_true (by omega : ((n : Nat) : Int) ≤ 3)]
      rfl
    rw [this]
    obtain ⟨dx, r, q, u, rvs, kvs, g1, g2, g3, g4, g5, g6⟩ := hH.ex
    refine ⟨true, rfl, iteF ⟨.ref x, rfl, x, dx, _, rfl, g1, flds_no r q u (by decide +kernel) (by decide +kernel) (by decide +kernel), x, rows, rfl, hH, fun N nN => ?_⟩⟩
    refine ⟨(by decide : 1 ≤ sizeLine), fun L nL => ?_⟩
    have s1 := same_new (o := .lst ((fsts rows).map V.str)) nN
    have s2 := same_new (o := .lst [.ref N]) nL
    refine ⟨.int n, rfl, L, n, [.ref N], rfl, rfl, upd_same, by omega, by omega, ?_, fun p np => ?_⟩
    · rw [Int.toNat_natCast]
      show 1 * n ≤ sizeLine
      exact szle (by omega)
    · rw [Int.toNat_natCast]
      rw [rep_flat]
      have s3 := same_new (o := .lst (List.replicate n (V.ref N))) np
      have s0 := s1.trans (s2.trans s3)
      refine ⟨p, _, List.replicate n (fsts rows), rfl, upd_same, ?_, ?_, ?_, fun H' D ts sH nD eD hts => ?_⟩
      · exact pair_rep ⟨N, rfl, (s2.trans s3) _ _ upd_same⟩ n
      · rw [List.length_replicate]
        omega
      · intro i hi
        rw [List.length_replicate] at hi
        rw [List.take_replicate, Nat.min_eq_left hi, rep_len, fstsL]
        exact few i hi
      · exact fin H' D ts (s0.trans sH) (s0.free nD) eD hts
end
end Lw
/-! The law's own closure. -/
namespace Lw
open PySem PySem.Spec PyProof.Rows L2 Kv
abbrev NAbove : List Str := ["_law_rows", "_law_label", "_law_found", "_law_one", "_law_superclasses", "_law_each"]
theorem scAbove : FnScope NAbove ["_law_rows", "_law_label"] (defScope sAbove) :=
  ⟨rfl, rfl, rfl, by decide +kernel, rfl, by decide +kernel, by decide +kernel⟩
abbrev NUps : List Str := ["_law_rows", "_law_row"]
theorem scUps : FnScope NUps ["_law_rows"] (defScope sUps) :=
  ⟨rfl, rfl, rfl, by decide +kernel, rfl, by decide +kernel, by decide +kernel⟩
theorem pair_rev {α β : Type} {R : α → β → Prop} : ∀ {as : List α} {bs : List β}, Paired R as bs → Paired R as.reverse bs.reverse
  | _, _, .nil => .nil
  | _, _, .cons h t => by
    rw [List.reverse_cons, List.reverse_cons]
    exact pair_snoc (pair_rev t) h
theorem ss_len {rows : List Row2} (v : Valid rows) {B : Nat} (hB : rows.length ≤ B) : ∀ r ∈ rows, r.2.length ≤ B := by
  intro r hr
  obtain ⟨i, hi, e⟩ := List.getElem_of_mem hr
  obtain ⟨_, _, h3, h4⟩ := v i r.1 r.2 (by rw [List.getElem?_eq_getElem hi, e])
  have := nodup_le h3 h4
  rw [fstsL, List.length_take] at this
  omega
theorem merge_new : ∀ (more acc : List (Key × V)), (∀ kv ∈ more, ∀ kw ∈ acc, kw.1 ≠ kv.1) → more.Pairwise (fun a b => a.1 ≠ b.1) → mergeK acc more = acc ++ more
  | [], acc, _, _ => (List.append_nil acc).symm
  | kv :: r, acc, h, hp => by
    obtain ⟨h1, h2⟩ := List.pairwise_cons.mp hp
    have e : putK acc kv.1 kv.2 = acc ++ [kv] := by
      unfold putK
      rw [if_neg]
      intro z
      obtain ⟨kw, hk, e⟩ := List.any_eq_true.mp z
      exact h kv (List.mem_cons_self ..) kw hk (of_decide_eq_true e)
    have := merge_new r (acc ++ [kv]) (fun kx hx kw hw => by
      rcases List.mem_append.mp hw with z | z
      · exact h kx (List.mem_cons_of_mem _ hx) kw z
      · rw [List.mem_singleton.mp z]
        exact h1 kx hx) h2
    show mergeK (putK acc kv.1 kv.2) r = _
    rw [e, this, List.append_assoc]
    rfl
section
variable {P : Program} {w : World} {K : PySem.W.Frag} {mg : Str → Option Value} {base : Heap}
def spAbove : Sp := fun vs H Q _ => ∃ (R : Addr) (label : Str) (us : List V) (rows : List Row2), vs = [.ref R, .str label] ∧ H R = some (.lst us) ∧ RowsAre H us rows ∧ Valid rows ∧ rows.length ≤ 20 ∧
  ∀ H' D, Same H H' → H D = none → H' D = some (.lst ((aboveL rows label).map V.str)) → Q (.ref D) H'
theorem ok_above {f : Addr} {fd : FuncData} {k : Nat} (F : Fun K "_law_above" "_law_above" sAbove f fd) :
    FnOk P w K mg base CX0 (k + 1) f fd ["_law_rows", "_law_label"] spAbove := by
  refine F.ok scAbove (fun vs H Q E h => ?_) (fun cdv A outer s H vs Q E hr h => ?_)
  · obtain ⟨R, label, us, rows, rfl, _⟩ := h
    rfl
  · obtain ⟨R, label, us, rows, rfl, hR, hus, hV, hl, fin⟩ := h
    refine ⟨_, pss_cons (ps_set (i := 2) scAbove.nd rfl (.inr rfl) (pe_lst (pa_cons (pv 1) pa_nil)))
      (pss_cons (ps_for PassesOwn.never rfl (pi_list (pe_revL (pv 0))) (pg_tup (by rfl) (pgs_cons (pg_name (i := 3) scAbove.nd rfl (.inl rfl)) (pgs_cons (pg_name (i := 4) scAbove.nd rfl (.inl rfl)) pgs_nil)))
        (pss_one (ps_if (pt_cmpR op_in_seq (pv 3) (pv 2) (by rfl))
          (pss_one (ps_expr (pe_bm PySem.F.plainAttrs_list PySem.F.slot_list_extend PySem.F.type_list_extend mt_extend (pv 2) (pa_cons
            (pe_lc (own := [("_law_each", 5)]) (g := gName 5) (tt := tTest (tOp (rIn K true) (tVar 5) (tVar 2))) (te := tVar 5) rfl scAbove.nd (pi_tup (pv 4))
              (blkOk_by (own := [("_law_each", 5)]) (N := NAbove) (sc := defScope sAbove) (by decide +kernel))
              (fun _ _ _ _ _ => pg_name (i := 5) scAbove.nd rfl (Or.inl rfl)) (fun _ _ _ _ _ => pts_one (pt_cmpR op_notIn_seq (pv 5) (pv 2) (by rfl)))
              (fun _ _ _ _ _ => pv 5)) pa_nil)))) pss_nil)))
      (pss_one (ps_ret (pv 2)))), ?_⟩
    refine ⟨.str label, rfl, (by decide : 1 ≤ sizeLine), fun D nD => ?_⟩
    have sD := same_new (o := .lst [.str label]) nD
    refine ⟨.ref R, rfl, R, us, rfl, .inl (.inl (sD _ _ hR)), fun V0 nV => ?_⟩
    have sV := same_new (o := .lst us.reverse) nV
    have nVD : D ≠ V0 := ne_of_none upd_same nV
    refine ⟨V0, rfl, ⟨_, .inl (.inl upd_same)⟩, ?_⟩
    have hrev := pair_rev hus
    have hB := ss_len hV hl
    refine for_list (xs := us.reverse) (fun j σ H3 => ∃ (y3 y4 : Option V), σ = [some (.ref R), some (.str label), some (.ref D), y3, y4, none] ∧ H3 D = some (.lst ((aboveAt rows label j).map V.str)) ∧ H3 V0 = some (.lst us.reverse) ∧ Same H H3 ∧ j ≤ 20)
      ⟨none, none, rfl, sV _ _ upd_same, upd_same, sD.trans sV, Nat.zero_le _⟩ (fun i σ H3 _ hP => ?_) (fun j v σ H3 hv hP => ?_) (fun σ H3 hP => ?_)
    · obtain ⟨_, _, _, _, e, _⟩ := hP
      exact .inl (.inl e)
    · obtain ⟨y3, y4, rfl, eD, eV, s3, _⟩ := hP
      obtain ⟨r, hr1, t, sA, rfl, et, es⟩ := pair_get hrev hv
      have hj : j < rows.length := by
        have := (List.getElem?_eq_some_iff.mp hr1).1
        rw [List.length_reverse] at this
        exact this
      have hab := above_len (label := label) 20 hB j
      refine ⟨t, _, rfl, .inl (.inl (s3 _ _ et)), rfl, _, _, rfl, _, _, rfl, rfl, .str r.1, rfl, .ref D, rfl, D, _, rfl, .inl (.inl (.inl eD)), rfl, flats _, _, rfl, ?_⟩
      rw [inV_strs]
      by_cases hin : r.1 ∈ aboveAt rows label j
      · rw [decide_eq_true hin]
        refine iteT ?_
        refine ⟨.ref D, rfl, .inl ⟨rfl, _, .inl (.inl eD)⟩, .ref sA, rfl, sA, rfl, ⟨_, .inl (.inl (s3 _ _ es))⟩, fun L nL => ?_⟩
        have nLD : D ≠ L := ne_of_none eD nL
        have nLV : V0 ≠ L := ne_of_none eV nL
        have nL0 : H L = none := s3.free nL
        refine lc_tup (xs := r.2.map V.str) (fun i H5 => H5 = upd H3 L (.lst (((r.2.take i).filter fun e => decide (e ∉ aboveAt rows label j)).map V.str))) rfl (fun i H5 _ hP => ?_) (fun i v H5 hv hP => ?_) (fun H5 hP => ?_)
        · subst hP
          exact .inl (.inl (by rw [upd_ne (ne_of_none (s3 _ _ es) nL)]; exact s3 _ _ es))
        · subst hP
          obtain ⟨z, hz, rfl⟩ := get_str hv
          refine ⟨rfl, .str z, rfl, .ref D, rfl, D, _, rfl, .inl (.inl (.inl (by rw [upd_ne nLD]; exact eD))), rfl, flats _, _, rfl, ?_⟩
          rw [inV_strs]
          have hrl := hB r (List.mem_reverse.mp (List.mem_of_getElem? hr1))
          by_cases hz2 : z ∈ aboveAt rows label j
          · rw [decide_eq_true hz2]
            refine iteF ?_
            rw [List.take_add_one, hz, List.filter_append, List.map_append]
            have : [z].filter (fun e => decide (e ∉ aboveAt rows label j)) = [] := by rw [List.filter_cons, decide_eq_false (by simpa using hz2)]; rfl
            show _ = upd _ L (.lst (_ ++ ([z].filter (fun e => decide (e ∉ aboveAt rows label j))).map V.str))
            rw [this, List.map_nil, List.append_nil]
          · rw [decide_eq_false hz2]
            refine iteT ⟨.str z, rfl, _, upd_same, ?_, ?_⟩
            · rw [List.length_map]
              have h1 := List.length_filter_le (fun e => decide (e ∉ aboveAt rows label j)) (r.2.take i)
              rw [List.length_take] at h1
              exact sz1 (by omega)
            · rw [upd_upd, List.take_add_one, hz, List.filter_append, List.map_append]
              have : [z].filter (fun e => decide (e ∉ aboveAt rows label j)) = [z] := by rw [List.filter_cons, decide_eq_true hz2]; rfl
              show _ = upd _ L (.lst (_ ++ ([z].filter (fun e => decide (e ∉ aboveAt rows label j))).map V.str))
              rw [this]
              rfl
        · subst hP
          rw [List.length_map, List.take_length]
          have hrl := hB r (List.mem_reverse.mp (List.mem_of_getElem? hr1))
          have h1 := List.length_filter_le (fun e => decide (e ∉ aboveAt rows label j)) r.2
          refine ⟨D, L, _, _, rfl, rfl, by rw [upd_ne nLD]; exact eD, upd_same, ?_, ?_⟩
          · rw [List.length_map, List.length_map]
            exact szle (by omega)
          · refine ⟨_, _, rfl, ?_, ?_, ?_, by omega⟩
            · rw [upd_same, above_next hr1, ← List.map_append]
              unfold stepUp
              rw [if_pos hin]
            · rw [upd_ne nVD.symm, upd_ne nLV]
              exact eV
            · intro b o hb
              rw [upd_ne (ne_of_none hb nD), upd_ne (ne_of_none hb nL0)]
              exact s3 _ _ hb
      · rw [decide_eq_false hin]
        refine iteF ⟨_, _, rfl, ?_, eV, s3, by omega⟩
        rw [eD, above_next hr1]
        unfold stepUp
        rw [if_neg hin]
    · obtain ⟨y3, y4, rfl, eD, eV, s3, _⟩ := hP
      have e : us.reverse.length = rows.length := by
        rw [List.length_reverse]
        exact hus.length
      rw [e] at eD
      exact ⟨.ref D, rfl, fin H3 D s3 nD eD⟩
/-- the closure as a dict -/
def UpE (H : Hp) (rows : List Row2) (kv : Key × V) (n : Str) : Prop := kv.1 = Sum.inr n ∧ LsAt H kv.2 (aboveL rows n)
def UpsAt (H : Hp) (d : Addr) (rows : List Row2) : Prop := ∃ kvs, H d = some (.dK kvs) ∧ Paired (UpE H rows) kvs (fsts rows)
theorem UpsAt.but {H H' : Hp} {p d : Addr} {rows : List Row2} (hp : PotAt H p) (b : But p H H') (h : UpsAt H d rows) : UpsAt H' d rows := by
  obtain ⟨kvs, h1, h2⟩ := h
  obtain ⟨r, g, ep, _⟩ := hp
  refine ⟨kvs, b _ _ (ne_of h1 ep (by intro z; cases z)) h1, Paired.mapP h2 ?_⟩
  rintro kv n ⟨e1, l, e2, e3⟩
  refine ⟨e1, l, e2, b _ _ (ne_of e3 ep ?_) e3⟩
  obtain ⟨q, eq⟩ := above_head rows n rows.length
  unfold aboveL
  rw [eq]
  intro z
  cases z
theorem valids_nodup {rows : List Row2} (v : Valid rows) : (fsts rows).Nodup := by
  refine List.pairwise_iff_getElem.mpr fun i j hi hj hij e => ?_
  rw [fstsL] at hi hj
  have hx : rows[j]? = some (rows[j].1, rows[j].2) := List.getElem?_eq_getElem hj
  obtain ⟨_, v2, _, _⟩ := v j _ _ hx
  refine v2 ?_
  have e2 : rows[i].1 = rows[j].1 := by
    have a1 : (fsts rows)[i]'(by rw [fstsL]; exact hi) = rows[i].1 := List.getElem_map ..
    have a2 : (fsts rows)[j]'(by rw [fstsL]; exact hj) = rows[j].1 := List.getElem_map ..
    rw [← a1, ← a2]
    exact e
  rw [← e2]
  unfold fsts
  exact List.mem_map.mpr ⟨rows[i], List.mem_take_iff_getElem.mpr ⟨i, by omega, rfl⟩, rfl⟩
theorem pair_pw {α β : Type} {R : α → β → Prop} {A : α → α → Prop} {B : β → β → Prop} (k : ∀ a b a' b', R a b → R a' b' → B b b' → A a a') : ∀ {as : List α} {bs : List β}, Paired R as bs → bs.Pairwise B → as.Pairwise A
  | _, _, .nil, _ => .nil
  | _, _, .cons h t, hp => by
    obtain ⟨h1, h2⟩ := List.pairwise_cons.mp hp
    refine List.pairwise_cons.mpr ⟨fun a ha => ?_, pair_pw k t h2⟩
    obtain ⟨i, hi, e⟩ := List.getElem_of_mem ha
    obtain ⟨b, hb, hr⟩ := pair_get t (List.getElem?_eq_some_iff.mpr ⟨hi, e⟩)
    exact k _ _ _ _ h hr (h1 b (List.mem_of_getElem? hb))
def spUps : Sp := fun vs H Q _ => ∃ (R : Addr) (us : List V) (rows : List Row2), vs = [.ref R] ∧ H R = some (.lst us) ∧ RowsAre H us rows ∧ Valid rows ∧ rows.length ≤ 20 ∧
  ∀ H' d, Same H H' → H d = none → UpsAt H' d rows → Q (.ref d) H'
theorem ok_ups {f fA : Addr} {fd fdA : FuncData} {k : Nat} (F : Fun K "_law_ups" "_law_ups" sUps f fd)
    (FA : Fun K "_law_above" "_law_above" sAbove fA fdA) (bA : Binds K fdA ["_law_rows", "_law_label"] []) (gA : mg "_law_above" = some (.ref fA))
    (GA : FnOk P w K mg base CX0 (k + 1) fA fdA ["_law_rows", "_law_label"] spAbove) (md : mg "dict" = none) :
    FnOk P w K mg base CX0 (k + 2) f fd ["_law_rows"] spUps := by
  refine F.ok scUps (fun vs H Q E h => ?_) (fun cdv A outer s H vs Q E hr h => ?_)
  · obtain ⟨R, us, rows, rfl, _⟩ := h
    rfl
  · obtain ⟨R, us, rows, rfl, hR, hus, hV, hl, fin⟩ := h
    refine ⟨_, pss_one (ps_ret (pe_callTy (call_dictP rfl) (by rfl) md (by decide +kernel) (pa_cons
        (pe_lc (own := [("_law_row", 1)]) (g := gName 1) (tt := tYes) (te := tTup (tCons (tOp (rIxT K) (tVar 1) (tC (.int 0))) (tCons (tCall spAbove [] E0 (tCons (tVar 0) (tCons (tOp (rIxT K) (tVar 1) (tC (.int 0))) tNil))) tNil))) rfl scUps.nd (pi_list (pv 0))
          (blkOk_by (own := [("_law_row", 1)]) (N := NUps) (sc := defScope sUps) (by decide +kernel))
          (fun _ _ _ _ _ => pg_name (i := 1) scUps.nd rfl (Or.inl rfl)) (fun _ _ _ _ _ => pts_nil)
          (fun _ _ _ _ _ => pe_tup (pa_cons (pe_ix ix_tup (pv 1) pe_int (fun _ _ => rfl)) (pa_cons (pe_call GA hr (by rfl) gA FA.kp bA .nil pass0 (pa_cons (pv 0) (pa_cons (pe_ix ix_tup (pv 1) pe_int (fun _ _ => rfl)) pa_nil))) pa_nil)))) pa_nil))), ?_⟩
    refine ⟨.ref R, rfl, R, rfl, ⟨_, .inl (.inl hR)⟩, fun D nD => ?_⟩
    have lu := hus.length
    refine lc_list (xs := us) (fun j H3 => ∃ (ps : List Addr) (kvs : List (Key × V)), H3 D = some (.lst (ps.map V.ref)) ∧ Paired (fun p kv => SqT K H3 p [kV kv.1, kv.2]) ps kvs ∧ Paired (UpE H3 rows) kvs ((fsts rows).take j) ∧ (∀ kv ∈ kvs, kv.2 ≠ .ref D) ∧ Same H H3)
      ⟨[], [], upd_same, .nil, .nil, fun kv h => (nomatch h), same_new nD⟩ (fun j H3 _ hP => ?_) (fun j v H3 hv hP => ?_) (fun H3 hP => ?_)
    · obtain ⟨_, _, _, _, _, _, s3⟩ := hP
      exact .inl (.inl (s3 _ _ hR))
    · obtain ⟨ps, kvs, eD, h1, h2, h3, s3⟩ := hP
      obtain ⟨r, hr1, t, sA, rfl, et, es⟩ := hus.get hv
      have jl : j < us.length := (List.getElem?_eq_some_iff.mp hv).1
      refine ⟨rfl, .ref t, rfl, t, [.str r.1, .ref sA], 0, .str r.1, rfl, rfl, .inl (.inl (s3 _ _ et)), atI_nat (j := 0) rfl, ?_⟩
      refine ⟨.ref R, rfl, .ref t, rfl, t, [.str r.1, .ref sA], 0, .str r.1, rfl, rfl, .inl (.inl (s3 _ _ et)), atI_nat (j := 0) rfl, R, r.1, us, rows, rfl, s3 _ _ hR, hus.same s3, hV, hl, fun H4 L s4 nL eL => ?_⟩
      refine ⟨(by decide : 2 ≤ sizeLine), fun T nT => ?_⟩
      have sT := same_new (o := .tup [.str r.1, .ref L]) nT
      have s34 := s4.trans sT
      have nLD : L ≠ D := fun z => by rw [z, eD] at nL; cases nL
      have eD5 := s34 _ _ eD
      have nTD : T ≠ D := fun z => by rw [z, s4 _ _ eD] at nT; cases nT
      have pl := Paired.length h1
      have pl2 := Paired.length h2
      rw [List.length_take, fstsL] at pl2
      refine ⟨_, eD5, ?_, ps ++ [T], kvs ++ [(Sum.inr r.1, .ref L)], ?_, ?_, ?_, ?_, ?_⟩
      · rw [List.length_map]
        exact sz1 (by omega)
      · rw [upd_same, List.map_append]
        rfl
      · refine pair_snoc (Paired.mapP h1 fun p kv z => ?_) (.inl (.inl (by rw [upd_ne nTD]; exact upd_same)))
        have z2 := sqT_same z s34
        rcases z2 with (z | ⟨o, z⟩) | z
        · exact .inl (.inl (by rw [upd_ne (ne_of z eD5 (by intro y; cases y))]; exact z))
        · exact .inl (.inr ⟨o, by rw [upd_ne (ne_of z eD5 (by intro y; cases y))]; exact z⟩)
        · exact .inr z
      · have hf : (fsts rows)[j]? = some r.1 := by
          unfold fsts
          rw [List.getElem?_map, hr1]
          rfl
        rw [List.take_add_one, hf]
        refine pair_snoc (pair_keep (ok := fun kv => kv.2 ≠ .ref D) (fun kv n z hk => ?_) h2 h3) ⟨rfl, L, rfl, by rw [upd_ne nLD]; exact sT _ _ eL⟩
        obtain ⟨e1, l, e2, e3⟩ := z
        refine ⟨e1, l, e2, ?_⟩
        rw [upd_ne (fun z => hk (by rw [e2, z]))]
        exact s34 _ _ e3
      · intro kv hk
        rcases List.mem_append.mp hk with z | z
        · exact h3 kv z
        · rw [List.mem_singleton.mp z]
          exact fun e => nLD (V.ref.inj e)
      · intro b o hb
        rw [upd_ne (ne_of_none hb nD)]
        exact s34 _ _ (s3 _ _ hb)
    · obtain ⟨ps, kvs, eD, h1, h2, h3, s3⟩ := hP
      have et : (fsts rows).take us.length = fsts rows := List.take_of_length_le (by rw [fstsL]; omega)
      rw [et] at h2
      refine ⟨D, ps, kvs, rfl, .inl (.inl eD), h1, fun d nd => ?_⟩
      have e : mergeK [] kvs = kvs := by
        rw [merge_new kvs [] (fun _ _ _ h => (nomatch h)) (pair_pw (A := fun a b => a.1 ≠ b.1) (B := fun a b => a ≠ b) (fun a b a' b' r1 r2 hb => ?_) h2 (valids_nodup hV))]
        · rfl
        · rw [r1.1, r2.1]
          exact fun z => hb (Sum.inr.inj z)
      rw [e]
      have sd := same_new (o := .dK kvs) nd
      exact fin _ d (s3.trans sd) (s3.free nd) ⟨kvs, upd_same, Paired.mapP h2 fun kv n z => ⟨z.1, z.2.same sd⟩⟩
end
end Lw
/-! The law's own order and points. -/
namespace Lw
open PySem PySem.Spec PyProof.Rows L2 Kv
abbrev NUnder : List Str := ["_law_ups_here", "_law_inner", "_law_outer", "_law_low", "_law_high"]
theorem scUnder : FnScope NUnder ["_law_ups_here", "_law_inner", "_law_outer"] (defScope sUnder) :=
  ⟨rfl, rfl, rfl, by decide +kernel, rfl, by decide +kernel, by decide +kernel⟩
abbrev NLAll : List Str := ["_law_rows", "_law_many", "_law_found", "_law_turn", "_law_longer", "_law_spot", "_law_row"]
theorem scLAll : FnScope NLAll ["_law_rows", "_law_many"] (defScope sLAll) :=
  ⟨rfl, rfl, rfl, by decide +kernel, rfl, by decide +kernel, by decide +kernel⟩
theorem walk_zipT {K : PySem.W.Frag} {a b : Addr} {xs ys : List V} (hl : xs.length = ys.length) :
    Walk (RZ.ItzT K a b) xs.length (fun H => SqT K H a xs ∧ SqT K H b ys) (YPair (fun i => xs[i]?) (fun i => ys[i]?)) := by
  refine ⟨fun i H hi q => ⟨xs, ys, xs[i], ys[i], q.1, q.2, by simp [hi], by simp [hl ▸ hi]⟩, fun H q => ⟨xs, ys, q.1, q.2, Or.inl (Nat.le_refl _)⟩, fun i H v H2 hi q y => ?_⟩
  obtain ⟨T, x, y, e1, e2, e3, e4, e5⟩ := y
  exact ⟨T, x, y, e1, e2, e3, e4 xs q.1, e5 ys q.2⟩
theorem okZip_all (f : Str → Str → Bool) : ∀ as bs : List Str, (List.zipWith f as bs).all id = okZip f as bs
  | [], _ => rfl
  | _ :: _, [] => rfl
  | a :: as, b :: bs => by
    show (f a b && (List.zipWith f as bs).all id) = (f a b && okZip f as bs)
    rw [okZip_all f as bs]
/-- low is at or below high -/
def under (rows : List Row2) (lo hi : Str) : Bool := decide (hi ∈ aboveL rows lo)
theorem Ups_look {H : Hp} {rows : List Row2} {n : Str} : ∀ {kvs : List (Key × V)} {ns : List Str}, Paired (UpE H rows) kvs ns → n ∈ ns → ∃ v, valV kvs (Sum.inr n : Key) = some v ∧ LsAt H v (aboveL rows n)
  | _, _, .nil, h => nomatch h
  | kv :: _, m :: r, .cons ⟨e1, e2⟩ t, h => by
    by_cases e : n = m
    · subst e
      exact ⟨kv.2, valV_pos e1, e2⟩
    · obtain ⟨v, h1, h2⟩ := Ups_look t (by
        rcases List.mem_cons.mp h with z | z
        · exact absurd z e
        · exact z)
      refine ⟨v, ?_, h2⟩
      rw [valV_neg (fun z => e (Sum.inr.inj (e1.symm.trans z)).symm)]
      exact h1
section
variable {P : Program} {w : World} {K : PySem.W.Frag} {mg : Str → Option Value} {base : Heap}
def spUnder : Sp := fun vs H Q _ => ∃ (d : Addr) (v1 v2 : V) (p1 p2 : List Str) (rows : List Row2), vs = [.ref d, v1, v2] ∧ UpsAt H d rows ∧ PtAt H v1 p1 ∧ PtAt H v2 p2 ∧ p1.length = p2.length ∧ p1.length ≤ 100 ∧ (∀ x ∈ p1, x ∈ fsts rows) ∧
  ∀ H', Same H H' → Q (.bl (okZip (under rows) p1 p2)) H'
theorem ok_under {f : Addr} {fd : FuncData} {k : Nat} (F : Fun K "_law_is_under" "_law_is_under" sUnder f fd) (ma : mg "all" = none) (mz : mg "zip" = none) :
    FnOk P w K mg base CX0 (k + 1) f fd ["_law_ups_here", "_law_inner", "_law_outer"] spUnder := by
  refine F.ok scUnder (fun vs H Q E h => ?_) (fun cdv A outer s H vs Q E hr h => ?_)
  · obtain ⟨d, v1, v2, p1, p2, rows, rfl, _⟩ := h
    rfl
  · obtain ⟨d, v1, v2, p1, p2, rows, rfl, ⟨kvs, hd, hk⟩, ⟨t1, rfl, h1⟩, ⟨t2, rfl, h2⟩, hl, hl2, hin, fin⟩ := h
    have hu := hu_of hr
    refine ⟨_, pss_one (ps_ret (pe_callB (cr_all rfl) (by rfl) ma (by decide +kernel) (pa_cons
        (pe_lc (own := [("_law_low", 3), ("_law_high", 4)]) (g := gTup K 2 (gCons (gName 3) (gCons (gName 4) gNil))) (tt := tYes) (te := tOp (rIn K false) (tVar 4) (tDGet (tVar 0) (tVar 3))) rfl scUnder.nd (RZ.pi_zipA (by rfl) mz (pa_cons (pv 1) (pa_cons (pv 2) pa_nil)))
          (blkOk_by (own := [("_law_low", 3), ("_law_high", 4)]) (N := NUnder) (sc := defScope sUnder) (by decide +kernel))
          (fun _ _ _ _ _ => pg_tup (by rfl) (pgs_cons (pg_name (i := 3) scUnder.nd rfl (Or.inl rfl)) (pgs_cons (pg_name (i := 4) scUnder.nd rfl (Or.inl rfl)) pgs_nil))) (fun _ _ _ _ _ => pts_nil)
          (fun _ _ _ _ _ => pe_cmpR op_in_seq (pv 4) (pe_dget hu (pv 0) (pv 3) (fun _ _ => rfl)) (by rfl))) pa_nil))), ?_⟩
    refine ⟨.ref t1, rfl, .ref t2, rfl, t1, t2, p1.map V.str, p2.map V.str, rfl, .inr ⟨.inl (.inl h1), .inl (.inl h2), fun D nD => ?_⟩⟩
    refine lc_it (walk_zipT (xs := p1.map V.str) (ys := p2.map V.str) (by rw [List.length_map, List.length_map, hl])) (fun j H3 => H3 D = some (.lst (((List.zipWith (under rows) p1 p2).take j).map V.bl)) ∧ Same H H3)
      ⟨upd_same, same_new nD⟩ (fun j H3 _ hP => ⟨.inl (.inl (hP.2 _ _ h1)), .inl (.inl (hP.2 _ _ h2))⟩) (fun j v H3 H4 hj hP hY => ?_) (fun H3 hP => ?_)
    · obtain ⟨eD, s3⟩ := hP
      obtain ⟨T, x, y, rfl, nT, rfl, e1, e2⟩ := hY
      obtain ⟨lo, hlo, rfl⟩ := get_str e1
      obtain ⟨hi, hhi, rfl⟩ := get_str e2
      have sT := same_new (o := .tup [.str lo, .str hi]) nT
      have s4 := s3.trans sT
      obtain ⟨v, hv1, l, rfl, hv2⟩ := Ups_look hk (hin lo (List.mem_of_getElem? hlo))
      refine ⟨T, _, rfl, .inl (.inl upd_same), rfl, _, _, rfl, _, _, rfl, rfl, rfl, .str hi, rfl, .ref d, rfl, .str lo, rfl, d, .ref l, rfl, ?_, l, _, rfl, .inl (.inl (.inl (s4 _ _ hv2))), rfl, flats _, _, sT _ _ eD, ?_, ?_, ?_⟩
      · have := DGet.k (k := Sum.inr lo) (s4 _ _ hd)
        rw [hv1] at this
        exact this
      · rw [List.length_map, List.length_take, List.length_zipWith]
        exact sz1 (by omega)
      · have hz : (List.zipWith (under rows) p1 p2)[j]? = some (under rows lo hi) := by
          rw [List.getElem?_zipWith, hlo, hhi]
        rw [upd_same, List.take_add_one, hz, List.map_append, inV_strs]
        rfl
      · intro b o hb
        rw [upd_ne (ne_of_none hb nD)]
        exact s4 _ _ hb
    · obtain ⟨eD, s3⟩ := hP
      rw [List.length_map, List.take_of_length_le (by rw [List.length_zipWith]; omega)] at eD
      refine ⟨D, _, rfl, .inl (.inl eD), ?_⟩
      rw [okZip_all]
      exact fin _ s3
def spLAll : Sp := fun vs H Q _ => ∃ (R : Addr) (n : Nat) (us : List V) (rows : List Row2), vs = [.ref R, .int n] ∧ H R = some (.lst us) ∧ RowsAre H us rows ∧ rows.length ≤ 100 ∧ n ≤ 3 ∧ Few rows n ∧
  ∀ H' D ts, Same H H' → H D = none → H' D = some (.lst ts) → Pts H' ts (combos (List.replicate n (fsts rows))) → Q (.ref D) H'
theorem ok_lall {f : Addr} {fd : FuncData} {k : Nat} (F : Fun K "_law_all_points" "_law_all_points" sLAll f fd) (mr : mg "range" = none) :
    FnOk P w K mg base CX0 (k + 1) f fd ["_law_rows", "_law_many"] spLAll := by
  refine F.ok scLAll (fun vs H Q E h => ?_) (fun cdv A outer s H vs Q E hr h => ?_)
  · obtain ⟨R, n, us, rows, rfl, _⟩ := h
    rfl
  · obtain ⟨R, n, us, rows, rfl, hR, hus, hl, hn, few, fin⟩ := h
    refine ⟨_, pss_cons (ps_set (i := 2) scLAll.nd rfl (.inl rfl) (pe_lst (pa_cons (pe_tup pa_nil) pa_nil)))
      (pss_cons (ps_for PassesOwn.never rfl (pi_range1 rfl mr (pa_cons (pv 1) pa_nil)) (pg_name (i := 3) scLAll.nd rfl (.inl rfl))
        (pss_cons (ps_set (i := 4) scLAll.nd rfl (.inl rfl) (pe_lst pa_nil))
        (pss_cons (ps_for PassesOwn.never rfl (pi_list (pv 2)) (pg_name (i := 5) scLAll.nd rfl (.inr rfl))
          (pss_one (ps_expr (pe_bm PySem.F.plainAttrs_list PySem.F.slot_list_extend PySem.F.type_list_extend mt_extend (pv 4) (pa_cons
            (pe_lc (own := [("_law_row", 6)]) (g := gName 6) (tt := tYes) (te := tOp (rCatA K) (tVar 5) (tTup (tCons (tOp (rIxT K) (tVar 6) (tC (.int 0))) tNil))) rfl scLAll.nd (pi_list (pv 0))
              (blkOk_by (own := [("_law_row", 6)]) (N := NLAll) (sc := defScope sLAll) (by decide +kernel))
              (fun _ _ _ _ _ => pg_name (i := 6) scLAll.nd rfl (Or.inl rfl)) (fun _ _ _ _ _ => pts_nil)
              (fun _ _ _ _ _ => pe_op op_catA (pv 5) (pe_tup (pa_cons (pe_ix ix_tup (pv 6) pe_int (fun _ _ => rfl)) pa_nil)))) pa_nil)))))
        (pss_one (ps_set (i := 2) scLAll.nd rfl (.inl rfl) (pv 4))))))
      (pss_one (ps_ret (pv 2)))), ?_⟩
    refine ⟨(by decide : 0 ≤ sizeLine), fun t0 nt0 => ⟨(by decide : 1 ≤ sizeLine), fun R0 nR0 => ?_⟩⟩
    have q1 := same_new (o := .tup []) nt0
    have q2 := same_new (o := .lst [.ref t0]) nR0
    refine ⟨.int n, rfl, n, rfl, by omega, by omega, ?_⟩
    refine for_range (n := (n : Int).toNat) (fun i σ H3 => ∃ (F : Addr) (y3 y4 y5 : Option V) (ts : List V), σ = [some (.ref R), some (.int n), some (.ref F), y3, y4, y5, none] ∧ Same H H3 ∧ H F = none ∧ H3 F = some (.lst ts) ∧ Pts H3 ts (combos (List.replicate i (fsts rows))))
      ⟨R0, none, none, none, [.ref t0], rfl, q1.trans q2, q1.free nR0, upd_same, .cons ⟨t0, rfl, q2 _ _ upd_same⟩ .nil⟩ (fun i σ H3 hi hP => ?_) (fun σ H3 hP => ?_)
    · obtain ⟨F, y3, y4, y5, ts, rfl, s3, nF, eF, hts⟩ := hP
      have hi2 : i < n := by omega
      refine ⟨(by decide : 0 ≤ sizeLine), fun G nG => ?_⟩
      have sG := same_new (o := .lst []) nG
      have nG0 : H G = none := s3.free nG
      refine ⟨.ref F, rfl, F, rfl, ⟨_, .inl (.inl (sG _ _ eF))⟩, ?_⟩
      have hbi := few (i + 1) (by omega)
      have tl := hts.length
      have e1 : stepC (combos (List.replicate i (fsts rows))) (fsts rows) = combos (List.replicate (i + 1) (fsts rows)) := by
        rw [List.replicate_succ', combos_snoc]
      have cl := rep_len (fsts rows) i
      have hlen := combos_len (List.replicate i (fsts rows))
      rw [List.length_replicate] at hlen
      rw [fstsL] at cl
      rw [Nat.pow_succ, ← cl] at hbi
      generalize combos (List.replicate i (fsts rows)) = cm at *
      refine for_list (xs := ts) (fun j σ H5 => ∃ (y5 : Option V) (acc : List V), σ = [some (.ref R), some (.int n), some (.ref F), some (.int (0 + (i : Int))), some (.ref G), y5, none] ∧ H5 G = some (.lst acc) ∧ Same H3 H5 ∧ Pts H5 acc (stepC (cm.take j) (fsts rows)))
        ⟨y5, [], rfl, upd_same, sG, .nil⟩ (fun j σ H5 _ hP => ?_) (fun j v σ H5 hv hP => ?_) (fun σ H5 hP => ?_)
      · obtain ⟨_, _, _, _, s5, _⟩ := hP
        exact .inl (.inl (s5 _ _ eF))
      · obtain ⟨y5, acc, rfl, eG, s5, hacc⟩ := hP
        obtain ⟨r, hr2, t, rfl, htt⟩ := pair_get hts hv
        have rl := hlen r (List.mem_of_getElem? hr2)
        refine ⟨.ref G, rfl, .inl ⟨rfl, _, .inl (.inl eG)⟩, .ref R, rfl, R, rfl, ⟨_, .inl (.inl (s5 _ _ (s3 _ _ hR)))⟩, fun L nL => ?_⟩
        have lu := hus.length
        refine lc_list (xs := us) (fun e H7 => ∃ acc2, H7 L = some (.lst acc2) ∧ Same H5 H7 ∧ Pts H7 acc2 (((fsts rows).take e).map (fun n => r ++ [n]))) ⟨[], upd_same, same_new nL, .nil⟩ (fun e H7 _ hP => ?_) (fun e v H7 hv hP => ?_) (fun H7 hP => ?_)
        · obtain ⟨_, _, s7, _⟩ := hP
          exact .inl (.inl (s7 _ _ (s5 _ _ (s3 _ _ hR))))
        · obtain ⟨acc2, eL, s7, h7⟩ := hP
          obtain ⟨rw0, hr1, tt, sA, rfl, et, es⟩ := hus.get hv
          have s07 := s3.trans (s5.trans s7)
          have hf : (fsts rows)[e]? = some rw0.1 := by
            unfold fsts
            rw [List.getElem?_map, hr1]
            rfl
          have hel : e < us.length := (List.getElem?_eq_some_iff.mp hv).1
          have done : ∀ (v : V) (H9 : Hp), Same H7 H9 → PtAt H9 v (r ++ [rw0.1]) → ∃ acc, H9 L = some (.lst acc) ∧ acc.length < sizeLine ∧ ∃ acc2, (upd H9 L (.lst (acc ++ [v]))) L = some (.lst acc2) ∧ Same H5 (upd H9 L (.lst (acc ++ [v]))) ∧ Pts (upd H9 L (.lst (acc ++ [v]))) acc2 (((fsts rows).take (e + 1)).map (fun n => r ++ [n])) := by
            intro v H9 s9 hp9
            refine ⟨acc2, s9 _ _ eL, ?_, _, upd_same, ?_, ?_⟩
            · rw [h7.length, List.length_map, List.length_take]
              exact sz1 (by omega)
            · intro b o hb
              rw [upd_ne (ne_of_none hb nL)]
              exact s9 _ _ (s7 _ _ hb)
            · rw [List.take_add_one, hf, List.map_append]
              exact pair_snoc ((h7.same s9).wr (s9 _ _ eL)) (hp9.wr (s9 _ _ eL))
          refine ⟨rfl, .ref t, rfl, .ref tt, rfl, tt, [.str rw0.1, .ref sA], 0, .str rw0.1, rfl, rfl, .inl (.inl (s07 _ _ et)), atI_nat (j := 0) rfl, (by decide : 1 ≤ sizeLine), fun u nu => ?_⟩
          have su := same_new (o := .tup [.str rw0.1]) nu
          refine ⟨t, u, r.map V.str, [.str rw0.1], rfl, rfl, .inl (.inl (su _ _ (s7 _ _ (s5 _ _ htt)))), .inl (.inl upd_same), ?_, fun hx => ?_, fun _ hy => (nomatch hy), fun _ _ q nq => ?_⟩
          · rw [List.length_map]
            exact szle (by
              have : [V.str rw0.1].length = 1 := rfl
              omega)
          · refine done _ _ su ⟨u, rfl, ?_⟩
            have : r = [] := List.map_eq_nil_iff.mp hx
            rw [this]
            exact upd_same
          · refine done _ _ (su.trans (same_new nq)) ⟨q, rfl, ?_⟩
            rw [upd_same, List.map_append]
            rfl
        · obtain ⟨acc2, eL, s7, h7⟩ := hP
          rw [List.take_of_length_le (by rw [fstsL]; omega)] at h7
          have hG7 := s7 _ _ eG
          have nGL : G ≠ L := ne_of_none eG nL
          have hjl : j < cm.length := (List.getElem?_eq_some_iff.mp hr2).1
          have le1 : (stepC (cm.take j) (fsts rows) ++ (fsts rows).map (fun n => r ++ [n])).length ≤ cm.length * rows.length := by
            rw [stepC_nx hr2, stepC_length, fstsL, List.length_take]
            exact Nat.mul_le_mul_right _ (by omega)
          rw [List.length_append] at le1
          refine ⟨G, L, acc, acc2, rfl, rfl, hG7, eL, ?_, ?_⟩
          · rw [hacc.length, h7.length]
            exact szle (by omega)
          · refine ⟨_, _, rfl, upd_same, ?_, ?_⟩
            · intro b o hb
              rw [upd_ne (ne_of_none hb nG)]
              exact s7 _ _ (s5 _ _ hb)
            · rw [← stepC_nx hr2]
              exact pair_app ((hacc.same s7).wr hG7) (h7.wr hG7)
      · obtain ⟨y5, acc, rfl, eG, s5, hacc⟩ := hP
        rw [tl, List.take_length, e1] at hacc
        exact ⟨.ref G, rfl, G, _, _, _, acc, rfl, s3.trans s5, nG0, eG, hacc⟩
    · obtain ⟨F, y3, y4, y5, ts, rfl, s3, nF, eF, hts⟩ := hP
      rw [Int.toNat_natCast] at hts
      exact ⟨.ref F, rfl, fin H3 F ts s3 nF eF hts⟩
end
end Lw
/-! descendants. -/
namespace Lw
open PySem PySem.Spec PyProof.Rows L2 Kv
abbrev NDesc : List Str := ["self", "name", "other"]
theorem scDesc : FnScope NDesc ["self", "name"] (defScope m_descendants) :=
  ⟨rfl, rfl, rfl, by decide +kernel, rfl, by decide +kernel, by decide +kernel⟩
/-- the classes below -/
def below (rows : List Row2) (x : Str) : List Str := (fsts rows).filter fun y => decide (x ∈ Anc rows y)
section
variable {P : Program} {w : World} {K : PySem.W.Frag} {mg : Str → Option Value} {base : Heap}
def spDesc (C : Addr) : Sp := fun vs H Q _ => ∃ (x : Addr) (y : Str) (rows : List Row2), vs = [.ref x, .str y] ∧ HierAt C H x rows ∧ Valid rows ∧ rows.length ≤ 100 ∧ y ∈ fsts rows ∧
  ∀ H' D, Same H H' → H D = none → H' D = some (.lst ((below rows y).map V.str)) → Q (.ref D) H'
theorem ok_desc {f fR fN C : Addr} {fd fdR fdN : FuncData} {k : Nat} (F : Fun K "descendants" "Hierarchy.descendants" m_descendants f fd) (T : HTxt K mg C)
    (mR : Meth K C "require_class" fR) (bR : Binds K fdR ["self", "value"] []) (GR : FnOk P w K mg base CX0 (k + 2) fR fdR ["self", "value"] (spRC C))
    (mN : Meth K C "names" fN) (bN : Binds K fdN ["self"] []) (GN : FnOk P w K mg base CX0 (k + 1) fN fdN ["self"] (spNmL C)) :
    FnOk P w K mg base CX0 (k + 3) f fd ["self", "name"] (spDesc C) := by
  refine F.ok scDesc (fun vs H Q E h => ?_) (fun cdv A outer s H vs Q E hr h => ?_)
  · obtain ⟨x, y, rows, rfl, _⟩ := h
    rfl
  · obtain ⟨x, y, rows, rfl, hH, hv, hl, hy, fin⟩ := h
    have hu := hu_of hr
    have hrN := hr.mono (by omega : k + 1 ≤ k + 2)
    refine ⟨_, pss_cons (ps_expr (pe_meth (pv 0) T.cl mR GR hr bR .nil pass0 (pa_cons (pv 1) pa_nil)))
      (pss_one (ps_ret (pe_lc (own := [("other", 2)]) (g := gName 2) (tt := tB (tDIn (tVar 1) (tDGet (tFld K (tVar 0) "above") (tVar 2)))) rfl scDesc.nd (pi_list (pe_meth0 (pv 0) T.cl mN GN hrN bN .nil pass0))
            (blkOk_by (own := [("other", 2)]) (N := NDesc) (sc := defScope m_descendants) (by decide +kernel))
            (fun _ _ _ _ _ => pg_name (i := 2) scDesc.nd rfl (Or.inl rfl)) (fun _ _ _ _ _ => pts_one (pt_cmp (pc_din hu (pv 1) (pe_dget hu (pe_fld (pv 0) rfl) (pv 2) (fun _ _ => rfl)))))
            (fun _ _ _ _ _ => pv 2)))), ?_⟩
    obtain ⟨dx, r, q, u, rvs, kvs, g1, g2, g3, g4, g5, g6⟩ := hH.ex
    refine ⟨.ref x, rfl, x, dx, _, rfl, g1, flds_no r q u (by decide +kernel) (by decide +kernel) (by decide +kernel), .str y, rfl, x, y, rows, rfl, hH, hy, fun H2 s2 => ?_⟩
    have hH2 := hH.same s2
    refine ⟨.ref x, rfl, x, dx, _, rfl, s2 _ _ g1, flds_no r q u (by decide +kernel) (by decide +kernel) (by decide +kernel), x, rows, rfl, hH2, fun N nN => ?_⟩
    have sN := same_new (o := .lst ((fsts rows).map V.str)) nN
    refine ⟨N, rfl, ⟨_, .inl (.inl upd_same)⟩, fun D nD => ?_⟩
    have nND : N ≠ D := ne_of_none upd_same nD
    have nD0 : H D = none := s2.free (sN.free nD)
    refine lc_list (xs := (fsts rows).map V.str) (fun j H6 => H6 = upd (upd H2 N (.lst ((fsts rows).map V.str))) D (.lst ((((fsts rows).take j).filter fun z => decide (y ∈ Anc rows z)).map V.str))) rfl (fun j H6 _ hP => ?_) (fun j v H6 hv hP => ?_) (fun H6 hP => ?_)
    · subst hP
      exact .inl (.inl (by rw [upd_ne nND]; exact upd_same))
    · subst hP
      obtain ⟨z, hz, rfl⟩ := get_str hv
      have s6 : Same H (upd (upd H2 N (.lst ((fsts rows).map V.str))) D (.lst ((((fsts rows).take j).filter fun z => decide (y ∈ Anc rows z)).map V.str))) := s2.trans (sN.trans (same_new nD))
      obtain ⟨d, hval, hd⟩ := g6.look (x := z) (by rw [ancTab_keys]; exact List.mem_of_getElem? hz)
      refine ⟨rfl, .str y, rfl, .ref x, rfl, x, C, dx, _, _, rfl, s6 _ _ g1, T.cl, T.nA, flds_above r q u, .str z, rfl, u, .ref d, rfl, ?_, d, _, rfl, DGet.k (k := Sum.inr y) (s6 _ _ hd), _, rfl, ?_⟩
      · have := DGet.k (k := Sum.inr z) (s6 _ _ g5)
        rw [hval] at this
        exact this
      · have ev : (valV (flag (look (ancTab rows) z)) (Sum.inr y : Key)).isSome = decide (y ∈ Anc rows z) := by
          rw [valV_flag]
          unfold Anc
          by_cases e : y ∈ look (ancTab rows) z
          · rw [if_pos e, decide_eq_true e]
            rfl
          · rw [if_neg e, decide_eq_false e]
            rfl
        rw [ev]
        cases e : decide (y ∈ Anc rows z) with
        | true =>
          refine iteT ⟨.str z, rfl, _, upd_same, ?_, ?_⟩
          · rw [List.length_map]
            have h1 := List.length_filter_le (fun z => decide (y ∈ Anc rows z)) ((fsts rows).take j)
            rw [List.length_take, fstsL] at h1
            exact sz1 (by omega)
          · rw [upd_upd, List.take_add_one, hz, List.filter_append, List.map_append]
            have : [z].filter (fun z => decide (y ∈ Anc rows z)) = [z] := by rw [List.filter_cons, e]; rfl
            show _ = upd _ D (.lst (_ ++ ([z].filter (fun z => decide (y ∈ Anc rows z))).map V.str))
            rw [this]
            rfl
        | false =>
          refine iteF ?_
          rw [List.take_add_one, hz, List.filter_append, List.map_append]
          have : [z].filter (fun z => decide (y ∈ Anc rows z)) = [] := by rw [List.filter_cons, e]; rfl
          show _ = upd _ D (.lst (_ ++ ([z].filter (fun z => decide (y ∈ Anc rows z))).map V.str))
          rw [this, List.map_nil, List.append_nil]
    · subst hP
      have et : (fsts rows).take ((fsts rows).map V.str).length = fsts rows := by rw [List.length_map, List.take_length]
      rw [et]
      exact fin _ D (s2.trans (sN.trans (same_new nD))) nD0 upd_same
end
end Lw
/-! points_at_or_below. -/
namespace Lw
open PySem PySem.Spec PyProof.Rows L2 Kv
abbrev NBelow : List Str := ["hierarchy", "point", "name"]
theorem scPB : FnScope NBelow ["hierarchy", "point"] (defScope sPtsBelow) :=
  ⟨rfl, rfl, rfl, by decide +kernel, rfl, by decide +kernel, by decide +kernel⟩
section
variable {P : Program} {w : World} {K : PySem.W.Frag} {mg : Str → Option Value} {base : Heap}
def spPB (C : Addr) : Sp := fun vs H Q _ => ∃ (x : Addr) (v : V) (p : List Str) (rows : List Row2), vs = [.ref x, v] ∧ HierAt C H x rows ∧ Valid rows ∧ rows.length ≤ 100 ∧ PtAt H v p ∧ IsPt rows p ∧ Few rows p.length ∧
  ∀ H' D ts, Same H H' → H D = none → H' D = some (.lst ts) → Pts H' ts (combos (p.map (below rows))) → Q (.ref D) H'
theorem few_below {rows : List Row2} {p : List Str} (h : Few rows p.length) : ∀ i, i ≤ p.length → (combos ((p.map (below rows)).take i)).length ≤ rows.length ^ i
  | 0, _ => Nat.le_refl _
  | i + 1, hi => by
    have ih := few_below h i (by omega)
    have e : (p.map (below rows))[i]? = some (below rows p[i]) := by rw [List.getElem?_map, List.getElem?_eq_getElem (by omega)]; rfl
    rw [combos_take e, stepC_length, Nat.pow_succ]
    refine Nat.mul_le_mul ih ?_
    unfold below
    exact Nat.le_trans (List.length_filter_le _ _) (Nat.le_of_eq (fstsL rows))
theorem ok_pB {f fR fB fD C : Addr} {fd fdR fdB fdD : FuncData} {k : Nat} (F : Fun K "points_at_or_below" "points_at_or_below" sPtsBelow f fd) (T : HTxt K mg C)
    (FR : Fun K "require_point" "require_point" sReq fR fdR) (bR : Binds K fdR ["hierarchy", "value"] []) (gR : mg "require_point" = some (.ref fR))
    (FB : Fun K "combinations" "combinations" sComb fB fdB) (bB : Binds K fdB ["choices"] []) (gB : mg "combinations" = some (.ref fB))
    (mD : Meth K C "descendants" fD) (bD : Binds K fdD ["self", "name"] []) (GD : FnOk P w K mg base CX0 (k + 3) fD fdD ["self", "name"] (spDesc C))
    (GR : FnOk P w K mg base CX0 (k + 3) fR fdR ["hierarchy", "value"] (spReq C)) (GB : FnOk P w K mg base CX0 (k + 1) fB fdB ["choices"] spComb) :
    FnOk P w K mg base CX0 (k + 4) f fd ["hierarchy", "point"] (spPB C) := by
  refine F.ok scPB (fun vs H Q E h => ?_) (fun cdv A outer s H vs Q E hr h => ?_)
  · obtain ⟨x, v, p, rows, rfl, _⟩ := h
    rfl
  · obtain ⟨x, v, p, rows, rfl, hH, hV, hl, hp, hi, few, fin⟩ := h
    have hrB := hr.mono (by omega : k + 1 ≤ k + 3)
    refine ⟨_, pss_cons (ps_expr (pe_call GR hr (by rfl) gR FR.kp bR .nil pass0 (pa_cons (pv 0) (pa_cons (pv 1) pa_nil))))
      (pss_one (ps_ret (pe_call GB hrB (by rfl) gB FB.kp bB .nil pass0 (pa_cons
          (pe_lc (own := [("name", 2)]) (g := gName 2) (tt := tYes) rfl scPB.nd (pi_tup (pv 1))
            (blkOk_by (own := [("name", 2)]) (N := NBelow) (sc := defScope sPtsBelow) (by decide +kernel))
            (fun _ _ _ _ _ => pg_name (i := 2) scPB.nd rfl (Or.inl rfl)) (fun _ _ _ _ _ => pts_nil)
            (fun _ _ _ _ _ => pe_meth (pv 0) T.cl mD GD hr bD .nil pass0 (pa_cons (pv 2) pa_nil))) pa_nil)))), ?_⟩
    refine ⟨.ref x, rfl, v, rfl, x, v, p, rows, rfl, hH, hp, hi, fun H2 s2 => ?_⟩
    obtain ⟨t, rfl, ht⟩ := hp
    have pl := hi.2.1
    refine ⟨.ref t, rfl, t, rfl, ⟨_, .inl (.inl (s2 _ _ ht))⟩, fun D nD => ?_⟩
    refine lc_tup (xs := p.map V.str) (fun i H3 => ∃ cvs, H3 D = some (.lst cvs) ∧ Same H2 H3 ∧ Paired (LsAt H3) cvs ((p.take i).map (below rows)) ∧ ∀ v ∈ cvs, v ≠ .ref D) ⟨[], upd_same, same_new nD, .nil, fun v h => nomatch h⟩ (fun i H3 _ hP => ?_) (fun i v H3 hv hP => ?_) (fun H3 hP => ?_)
    · obtain ⟨_, _, s3, _⟩ := hP
      exact .inl (.inl (s3 _ _ (s2 _ _ ht)))
    · obtain ⟨y, hy, rfl⟩ := get_str hv
      obtain ⟨cvs, eD, s3, hcv, hne⟩ := hP
      have hH3 := (hH.same s2).same s3
      obtain ⟨dx, r, q, u, rvs, kvs, g1, g2, g3, g4, g5, g6⟩ := hH3.ex
      refine ⟨rfl, .ref x, rfl, x, dx, _, rfl, g1, flds_no r q u (by decide +kernel) (by decide +kernel) (by decide +kernel), .str y, rfl, x, y, rows, rfl, hH3, hV, hl, hi.2.2 y (List.mem_of_getElem? hy), fun H4 L s4 nL eL => ?_⟩
      have nLD : L ≠ D := fun z => by rw [z, eD] at nL; cases nL
      have cl := Paired.length hcv
      rw [List.length_map, List.length_take] at cl
      have keep : ∀ {v l}, LsAt H3 v l → v ≠ .ref D → LsAt (upd H4 D (.lst (cvs ++ [.ref L]))) v l := fun {v l} h hn => by
        obtain ⟨a, rfl, ea⟩ := h
        refine ⟨a, rfl, ?_⟩
        rw [upd_ne (fun z => hn (by rw [z]))]
        exact s4 _ _ ea
      refine ⟨cvs, s4 _ _ eD, sz1 (by omega), cvs ++ [.ref L], upd_same, ?_, ?_, ?_⟩
      · intro b o hb
        rw [upd_ne (ne_of_none hb nD)]
        exact s4 _ _ (s3 _ _ hb)
      · rw [List.take_add_one, hy, List.map_append]
        refine pair_snoc ?_ ⟨L, rfl, by rw [upd_ne nLD]; exact eL⟩
        exact pair_keep (ok := fun v => v ≠ .ref D) (fun v l h1 h2 => keep h1 h2) hcv hne
      · intro v hv
        rcases List.mem_append.mp hv with z | z
        · exact hne v z
        · rw [List.mem_singleton.mp z]
          exact fun e => nLD (V.ref.inj e)
    · obtain ⟨cvs, eD, s3, hcv, hne⟩ := hP
      rw [List.length_map, List.take_length] at hcv
      have s0 := s2.trans s3
      refine ⟨D, cvs, p.map (below rows), rfl, eD, hcv, by rw [List.length_map]; omega, ?_, fun H' L ts sH nL eL hts => fin H' L ts (s0.trans sH) (s0.free nL) eL hts⟩
      intro i hi2
      rw [List.length_map] at hi2
      exact Nat.le_trans (few_below few i hi2) (few i hi2)
end
end Lw
/-! One count of parameters. -/
namespace Lw
open PySem PySem.Spec PyProof.Rows L2 Kv
abbrev NCR : List Str := ["_law_pot_here", "_law_world", "_law_rows", "_law_many", "_law_ups_here", "_law_spots", "_law_told", "_law_turn", "_law_spot", "_law_due", "_law_below", "_law_one"]
theorem scCR : FnScope NCR ["_law_pot_here", "_law_world", "_law_rows", "_law_many"] (defScope sCR) :=
  ⟨rfl, rfl, rfl, by decide +kernel, rfl, by decide +kernel, by decide +kernel⟩
theorem below_eq {rows : List Row2} (v : Valid rows) (x : Str) : below rows x = (fsts rows).filter (under rows · x) := by
  unfold below under
  refine List.filter_congr fun y hy => ?_
  have := mem_above v hy x
  by_cases e : x ∈ Anc rows y
  · rw [decide_eq_true e, decide_eq_true (this.mpr e)]
  · rw [decide_eq_false e, decide_eq_false (fun z => e (this.mp z))]
theorem below_pts {rows : List Row2} (v : Valid rows) {k : Nat} {pt : List Str} (hk : pt.length = k) :
    combos (pt.map (below rows)) = (combos (List.replicate k (fsts rows))).filter (okZip (under rows) · pt) := by
  rw [← combos_filter (under rows) (fsts rows) k pt hk]
  congr 1
  exact List.map_congr_left fun x _ => below_eq v x
theorem valid_sm {rows : List Row2} (v : Valid rows) : ∀ x ∈ fsts rows, Sm 8 x := fun x hx => by
  obtain ⟨i, ss, e⟩ := mem_row hx
  exact name_sm (v i x ss e).1
/-- the points of so many classes, and how they are shown -/
structure PtsOk (rows : List Row2) (k : Nat) (ps : List (List Str)) : Prop where
  each : ∀ p ∈ ps, p.length = k ∧ ∀ x ∈ p, x ∈ fsts rows
  few : ps.length ≤ 600
theorem ptsOk_all {rows : List Row2} {k : Nat} (h : rows.length ^ k ≤ 600) : PtsOk rows k (combos (List.replicate k (fsts rows))) := by
  refine ⟨fun p hp => ⟨?_, ?_⟩, ?_⟩
  · rw [combos_len _ p hp, List.length_replicate]
  · refine combos_all (fun x => x ∈ fsts rows) (fun c hc x hx => ?_) p hp
    rw [List.eq_of_mem_replicate hc] at hx
    exact hx
  · rw [rep_len, fstsL]
    exact h
theorem PtsOk.filter {rows : List Row2} {k : Nat} {ps : List (List Str)} (h : PtsOk rows k ps) (f : List Str → Bool) : PtsOk rows k (ps.filter f) :=
  ⟨fun p hp => h.each p (List.mem_filter.mp hp).1, Nat.le_trans (List.length_filter_le _ _) h.few⟩
theorem PtsOk.show {rows : List Row2} (v : Valid rows) {k : Nat} (hk : k ≤ 3) {ps : List (List Str)} (h : PtsOk rows k ps) :
    (ptsD ps).showable = true ∧ (ptsD ps).shown.length ≤ sizeLine ∧ (ptsD ps).depth ≤ 60 := by
  have f := Fit.lst (fit_pts 3 ps fun p hp => ⟨by rw [(h.each p hp).1]; exact hk, fun x hx => valid_sm v x ((h.each p hp).2 x hx)⟩)
  have := h.few
  exact f.ok (by omega) (by decide)
section
variable {P : Program} {w : World} {K : PySem.W.Frag} {mg : Str → Option Value} {base : Heap}
theorem pts_sh {H : Hp} {a : Addr} {ts : List V} {ps : List (List Str)} (e : H a = some (.lst ts)) (h : Pts H ts ps) : Sh K true H (.ref a) (ptsD ps) :=
  .lst (.inl (.inl e)) (fun z => by cases z) h.sh
theorem UpsAt.same {H H' : Hp} {d : Addr} {rows : List Row2} (s : Same H H') (h : UpsAt H d rows) : UpsAt H' d rows := by
  obtain ⟨kvs, h1, h2⟩ := h
  exact ⟨kvs, s _ _ h1, Paired.mapP h2 fun kv n z => ⟨z.1, z.2.same s⟩⟩
theorem pot_lst {H : Hp} {p : Addr} (h : PotAt H p) : ∃ zs, H p = some (.lst zs) := by
  obtain ⟨r, g, e, _⟩ := h
  exact ⟨_, e⟩
theorem ne_dec (a : Str) : (!decide (V.str a = V.str a)) = false := by rw [decide_eq_true rfl]; rfl
def spCR (C : Addr) : Sp := fun vs H Q _ => ∃ (p x R : Addr) (n : Nat) (us : List V) (rows : List Row2), vs = [.ref p, .ref x, .ref R, .int n] ∧ PotAt H p ∧ HierAt C H x rows ∧ H R = some (.lst us) ∧ R ≠ p ∧ RowsAre H us rows ∧ Valid rows ∧
  1 ≤ rows.length ∧ rows.length ≤ 20 ∧ 1 ≤ n ∧ n ≤ 3 ∧ Few rows n ∧ rows.length ^ n ≤ 600 ∧ ∀ H', PotAt H' p → But p H H' → Q (.bl true) H'
theorem ok_cr {f fU fL fA fN fB fD C : Addr} {fd fdU fdL fdA fdN fdB fdD : FuncData} {k : Nat} (F : Fun K "_law_count_right" "_law_count_right" sCR f fd)
    (FU : Fun K "_law_ups" "_law_ups" sUps fU fdU) (bU : Binds K fdU ["_law_rows"] []) (gU : mg "_law_ups" = some (.ref fU)) (GU : FnOk P w K mg base CX0 (k + 2) fU fdU ["_law_rows"] spUps)
    (FL : Fun K "_law_all_points" "_law_all_points" sLAll fL fdL) (bL : Binds K fdL ["_law_rows", "_law_many"] []) (gL : mg "_law_all_points" = some (.ref fL)) (GL : FnOk P w K mg base CX0 (k + 1) fL fdL ["_law_rows", "_law_many"] spLAll)
    (FA : Fun K "all_points" "all_points" sAllPts fA fdA) (bA : Binds K fdA ["hierarchy", "count"] []) (gA : mg "all_points" = some (.ref fA)) (GA : FnOk P w K mg base CX0 (k + 2) fA fdA ["hierarchy", "count"] (spAllP C))
    (FN : Fun K "_law_is_under" "_law_is_under" sUnder fN fdN) (bN : Binds K fdN ["_law_ups_here", "_law_inner", "_law_outer"] []) (gN : mg "_law_is_under" = some (.ref fN)) (GN : FnOk P w K mg base CX0 (k + 1) fN fdN ["_law_ups_here", "_law_inner", "_law_outer"] spUnder)
    (FB : Fun K "points_at_or_below" "points_at_or_below" sPtsBelow fB fdB) (bB : Binds K fdB ["hierarchy", "point"] []) (gB : mg "points_at_or_below" = some (.ref fB)) (GB : FnOk P w K mg base CX0 (k + 4) fB fdB ["hierarchy", "point"] (spPB C))
    (FD : Fun K "_law_draw" "_law_draw" sDraw fD fdD) (bD : Binds K fdD ["_law_pot_here", "_law_many"] []) (gD : mg "_law_draw" = some (.ref fD)) (GD : FnOk P w K mg base CX0 (k + 1) fD fdD ["_law_pot_here", "_law_many"] spDraw)
    (mp : mg "repr" = none) (mr : mg "range" = none) (ml : mg "len" = none) :
    FnG P w K mg base CX0 (k + 5) f fd ["_law_pot_here", "_law_world", "_law_rows", "_law_many"] (spCR C) := by
  refine okG F scCR (fun vs H Q E h => ?_) (fun cdv A outer s H vs Q E hg hr h => ?_)
  · obtain ⟨p, x, R, n, us, rows, rfl, _⟩ := h
    rfl
  · obtain ⟨p, x, R, n, us, rows, rfl, hp, hH, hR, nRp, hus, hV, l1, l2, n1, n3, few, f6, fin⟩ := h
    have hr1 := hr.mono (by omega : k + 1 ≤ k + 4)
    have hr2 := hr.mono (by omega : k + 2 ≤ k + 4)
    refine ⟨_, pss_cons (ps_asg (pe_tup (pa_cons (pe_call GU hr2 (by rfl) gU FU.kp bU .nil pass0 (pa_cons (pv 2) pa_nil)) (pa_cons (pe_call GL hr1 (by rfl) gL FL.kp bL .nil pass0 (pa_cons (pv 2) (pa_cons (pv 3) pa_nil))) pa_nil)))
          (pg_tup rfl (pgs_cons (pg_name (i := 4) scCR.nd rfl (.inr rfl)) (pgs_cons (pg_name (i := 5) scCR.nd rfl (.inl rfl)) pgs_nil))))
      (pss_cons (ps_set (i := 6) scCR.nd rfl (.inl rfl) (pe_call GA hr2 (by rfl) gA FA.kp bA .nil pass0 (pa_cons (pv 1) (pa_cons (pv 3) pa_nil))))
      (pss_cons (ps_if (pt_cmpR op_ne (pe_callB (call_reprD hg hr.units) (by rfl) mp (by decide +kernel) (pa_cons (pv 6) pa_nil)) (pe_callB (call_reprD hg hr.units) (by rfl) mp (by decide +kernel) (pa_cons (pv 5) pa_nil)) (nomark _)) (pss_one (ps_ret pe_bl)) pss_nil)
      (pss_cons (ps_expr (pe_bm0 PySem.F.plainAttrs_list PySem.F.slot_list_reverse PySem.F.type_list_reverse mt_reverse (pv 6)))
      (pss_cons (ps_expr (pe_bm PySem.F.plainAttrs_list PySem.F.slot_list_append PySem.F.type_list_append mt_append (pv 6) (pa_cons pe_non pa_nil)))
      (pss_cons (ps_for PassesOwn.never rfl (pi_range1 rfl mr (pa_cons pe_int pa_nil)) (pg_name (i := 7) scCR.nd rfl (.inl rfl))
        (pss_cons (ps_set (i := 8) scCR.nd rfl (.inr rfl) (pe_ix ix_list (pv 5) (pe_call GD hr1 (by rfl) gD FD.kp bD .nil pass0 (pa_cons (pv 0) (pa_cons (pe_callB call_len_seq (by rfl) ml PySem.boot_len (pa_cons (pv 5) pa_nil)) pa_nil))) (fun _ _ => rfl)))
        (pss_cons (ps_set (i := 9) scCR.nd rfl (.inl rfl) (pe_callB (call_reprD hg hr.units) (by rfl) mp (by decide +kernel) (pa_cons
            (pe_lc (own := [("_law_one", 11)]) (g := gName 11) (tt := tB (tCall spUnder [] E0 (tCons (tVar 4) (tCons (tVar 11) (tCons (tVar 8) tNil))))) (te := tVar 11) rfl scCR.nd (pi_list (pv 5))
              (blkOk_by (own := [("_law_one", 11)]) (N := NCR) (sc := defScope sCR) (by decide +kernel))
              (fun _ _ _ _ _ => pg_name (i := 11) scCR.nd rfl (Or.inl rfl)) (fun _ _ _ _ _ => pts_one (pt_val (pe_call GN hr1 (by rfl) gN FN.kp bN .nil pass0 (pa_cons (pv 4) (pa_cons (pv 11) (pa_cons (pv 8) pa_nil))))))
              (fun _ _ _ _ _ => pv 11)) pa_nil)))
        (pss_cons (ps_set (i := 10) scCR.nd rfl (.inl rfl) (pe_call GB hr (by rfl) gB FB.kp bB .nil pass0 (pa_cons (pv 1) (pa_cons (pv 8) pa_nil))))
        (pss_cons (ps_if (pt_cmpR op_ne (pe_callB (call_reprD hg hr.units) (by rfl) mp (by decide +kernel) (pa_cons (pv 10) pa_nil)) (pv 9) (nomark _)) (pss_one (ps_ret pe_bl)) pss_nil)
        (pss_cons (ps_expr (pe_bm0 PySem.F.plainAttrs_list PySem.F.slot_list_clear PySem.F.type_list_clear mt_clear (pv 10)))
        (pss_one (ps_if (pt_cmpR op_ne (pe_callB (call_reprD hg hr.units) (by rfl) mp (by decide +kernel) (pa_cons (pe_call GB hr (by rfl) gB FB.kp bB .nil pass0 (pa_cons (pv 1) (pa_cons (pv 8) pa_nil))) pa_nil)) (pv 9) (nomark _)) (pss_one (ps_ret pe_bl)) pss_nil))))))))
      (pss_one (ps_ret (pe_cmpR op_eq (pe_callB (call_reprD hg hr.units) (by rfl) mp (by decide +kernel) (pa_cons (pe_call GA hr2 (by rfl) gA FA.kp bA .nil pass0 (pa_cons (pv 1) (pa_cons (pv 3) pa_nil))) pa_nil)) (pe_callB (call_reprD hg hr.units) (by rfl) mp (by decide +kernel) (pa_cons (pv 5) pa_nil)) (nomark _))))))))), ?_⟩
    refine ⟨.ref R, rfl, R, us, rows, rfl, hR, hus, hV, l2, fun H1 d s1 nd hU => ?_⟩
    refine ⟨.ref R, rfl, .int n, rfl, R, n, us, rows, rfl, s1 _ _ hR, hus.same s1, by omega, n3, few, fun H2 S ts s2 nS eS hts => ?_⟩
    refine ⟨(by decide : 2 ≤ sizeLine), fun t nt => ⟨t, _, rfl, .inl (.inl upd_same), rfl, _, _, rfl, _, _, rfl, rfl, ?_⟩⟩
    have sG := same_new (o := .tup [.ref d, .ref S]) nt
    have sHG := s1.trans (s2.trans sG)
    have hpG := hp.same sHG
    have hHG := hH.same sHG
    have hUG := hU.same (s2.trans sG)
    have eSG := sG _ _ eS
    have htG := hts.same sG
    have nSp : S ≠ p := by
      intro z
      obtain ⟨zs, e⟩ := pot_lst (hp.same s1)
      rw [z, e] at nS
      cases nS
    generalize upd H2 t (.tup [.ref d, .ref S]) = G at *
    have pok := ptsOk_all f6
    obtain ⟨w1, w2, w3⟩ := pok.show hV n3
    have plen : (combos (List.replicate n (fsts rows))).length = rows.length ^ n := by rw [rep_len, fstsL]
    have ppos : 0 < rows.length ^ n := Nat.pow_pos l1
    refine ⟨.ref x, rfl, .int n, rfl, x, n, rows, rfl, hHG, n1, n3, few, fun H3 T us3 s3 nT eT hT => ?_⟩
    refine ⟨.ref T, rfl, true, .ref T, _, rfl, pts_sh eT hT, w1, w2, w3, .ref S, rfl, true, .ref S, _, rfl, pts_sh (s3 _ _ eSG) (htG.same s3), w1, w2, w3, rfl, _, rfl, ?_⟩
    rw [ne_dec]
    refine iteF ?_
    have tl3 := hT.length
    have tl := htG.length
    refine ⟨.ref T, rfl, .inl ⟨rfl, _, .inl (.inl eT)⟩, T, us3, rfl, rfl, eT, ?_⟩
    refine ⟨.ref T, rfl, .inl ⟨rfl, _, .inl (.inl upd_same)⟩, T, us3.reverse, .non, rfl, rfl, upd_same, sz1 (by rw [List.length_reverse]; omega), ?_⟩
    rw [upd_upd]
    have sG2 : Same G (upd H3 T (.lst (us3.reverse ++ [.non]))) := fun b o hb => by
      rw [upd_ne (ne_of_none hb nT)]
      exact s3 _ _ hb
    generalize upd H3 T (.lst (us3.reverse ++ [.non])) = G2 at sG2
    obtain ⟨zs, ezs⟩ := pot_lst hpG
    refine ⟨12, rfl, by decide, by decide, ?_⟩
    refine for_range (lo := 0) (n := 12) (fun i σ H6 => ∃ y7 y8 y9 y10, σ = [some (.ref p), some (.ref x), some (.ref R), some (.int n), some (.ref d), some (.ref S), some (.ref T), y7, y8, y9, y10, none] ∧ PotAt H6 p ∧ But p G H6)
      ⟨none, none, none, none, rfl, hpG.same sG2, But.of_same sG2⟩ (fun i σ H6 hi hP => ?_) (fun σ H6 hP => ?_)
    · obtain ⟨y7, y8, y9, y10, rfl, hp6, b6⟩ := hP
      refine ⟨.ref S, rfl, .ref p, rfl, .ref S, rfl, S, ts, rfl, .inl (.inl (.inl (b6 _ _ nSp eSG))), p, (ts.length : Nat), rfl, hp6, by omega, ?_, fun H7 dd d0 d1 hp7 b7 => ?_⟩
      · have : ts.length ≤ 600 := by omega
        exact Int.le_trans (by omega : ((ts.length : Nat) : Int) ≤ 600) (by decide)
      obtain ⟨j, rfl⟩ : ∃ j : Nat, dd = j := ⟨dd.toNat, by omega⟩
      have hj : j < ts.length := by omega
      have ej : ts[j]? = some ts[j] := List.getElem?_eq_getElem hj
      generalize ts[j] = v at ej
      obtain ⟨pt, hpt, tp, rfl, etp⟩ := pair_get htG ej
      have b07 := b6.trans b7
      have nTp : tp ≠ p := ne_of etp ezs (by intro z; cases z)
      refine ⟨S, ts, j, .ref tp, rfl, rfl, .inl (.inl (b07 _ _ nSp eSG)), atI_nat ej, ?_⟩
      have hH7 := hHG.but hpG b07
      have hU7 := hUG.but hpG b07
      have ht7 := htG.but ezs b07
      have eS7 := b07 _ _ nSp eSG
      have etp7 := b07 _ _ nTp etp
      obtain ⟨k1, k2⟩ := pok.each pt (List.mem_of_getElem? hpt)
      refine ⟨.ref S, rfl, S, rfl, ⟨_, .inl (.inl eS7)⟩, fun D nD => ?_⟩
      refine lc_list (xs := ts) (fun e H8 => ∃ acc, H8 D = some (.lst acc) ∧ Same H7 H8 ∧ Pts H8 acc (((combos (List.replicate n (fsts rows))).take e).filter (okZip (under rows) · pt))) ⟨[], upd_same, same_new nD, .nil⟩ (fun e H8 _ hP => ?_) (fun e v H8 hv hP => ?_) (fun H8 hP => ?_)
      · obtain ⟨_, _, s8, _⟩ := hP
        exact .inl (.inl (s8 _ _ eS7))
      · obtain ⟨acc, eD, s8, h8⟩ := hP
        obtain ⟨pe, hpe, te, rfl, ete⟩ := pair_get ht7 hv
        obtain ⟨m1, m2⟩ := pok.each pe (List.mem_of_getElem? hpe)
        refine ⟨rfl, .ref d, rfl, .ref te, rfl, .ref tp, rfl, d, .ref te, .ref tp, pe, pt, rows, rfl, hU7.same s8, ⟨te, rfl, s8 _ _ ete⟩, ⟨tp, rfl, s8 _ _ etp7⟩, by omega, by omega, m2, fun H9 s9 => ⟨_, rfl, ?_⟩⟩
        have al := h8.length
        have al2 := List.length_filter_le (okZip (under rows) · pt) ((combos (List.replicate n (fsts rows))).take e)
        rw [List.length_take] at al2
        rw [List.take_add_one, hpe]
        rw [List.filter_append]
        cases hz : okZip (under rows) pe pt with
        | true =>
          refine iteT ⟨.ref te, rfl, acc, s9 _ _ eD, sz1 (by omega), _, upd_same, ?_, ?_⟩
          · intro b o hb
            rw [upd_ne (ne_of_none hb nD)]
            exact s9 _ _ (s8 _ _ hb)
          · have e1 : (some pe).toList.filter (okZip (under rows) · pt) = [pe] := by
              show [pe].filter _ = _
              rw [List.filter_cons, hz]
              rfl
            rw [e1]
            exact pair_snoc ((h8.same s9).wr (s9 _ _ eD)) (PtAt.wr (s9 _ _ eD) ⟨te, rfl, s9 _ _ (s8 _ _ ete)⟩)
        | false =>
          refine iteF ⟨acc, s9 _ _ eD, s8.trans s9, ?_⟩
          have e1 : (some pe).toList.filter (okZip (under rows) · pt) = [] := by
            show [pe].filter _ = _
            rw [List.filter_cons, hz]
            rfl
          rw [e1, List.append_nil]
          exact h8.same s9
      · obtain ⟨acc, eD, s8, h8⟩ := hP
        rw [List.take_of_length_le (by omega)] at h8
        obtain ⟨x1, x2, x3⟩ := (pok.filter (okZip (under rows) · pt)).show hV n3
        refine ⟨true, .ref D, _, rfl, pts_sh eD h8, x1, x2, x3, ?_⟩
        have hip : IsPt rows pt := ⟨by omega, by omega, k2⟩
        have few2 : Few rows pt.length := by rw [k1]; exact few
        refine ⟨.ref x, rfl, .ref tp, rfl, x, .ref tp, pt, rows, rfl, hH7.same s8, hV, by omega, ⟨tp, rfl, s8 _ _ etp7⟩, hip, few2, fun H10 B bs s10 nB eB hB => ?_⟩
        rw [below_pts hV k1] at hB
        refine ⟨.ref B, rfl, true, .ref B, _, rfl, pts_sh eB hB, x1, x2, x3, .str _, rfl, rfl, _, rfl, ?_⟩
        rw [ne_dec]
        refine iteF ?_
        refine ⟨.ref B, rfl, .inl ⟨rfl, _, .inl (.inl eB)⟩, B, bs, rfl, rfl, eB, ?_⟩
        have s11 : Same H7 (upd H10 B (.lst [])) := fun b o hb => by
          rw [upd_ne (ne_of_none (s8 _ _ hb) nB)]
          exact s10 _ _ (s8 _ _ hb)
        generalize upd H10 B (.lst []) = H11 at s11
        refine ⟨.ref x, rfl, .ref tp, rfl, x, .ref tp, pt, rows, rfl, hH7.same s11, hV, by omega, ⟨tp, rfl, s11 _ _ etp7⟩, hip, few2, fun H12 B2 bs2 s12 nB2 eB2 hB2 => ?_⟩
        rw [below_pts hV k1] at hB2
        refine ⟨true, .ref B2, _, rfl, pts_sh eB2 hB2, x1, x2, x3, .str _, rfl, rfl, _, rfl, ?_⟩
        rw [ne_dec]
        exact iteF ⟨_, _, _, _, rfl, hp7.same (s11.trans s12), b07.trans (But.of_same (s11.trans s12))⟩
    · obtain ⟨y7, y8, y9, y10, rfl, hp6, b6⟩ := hP
      refine ⟨.ref x, rfl, .int n, rfl, x, n, rows, rfl, hHG.but hpG b6, n1, n3, few, fun H7 T2 us7 s7 nT2 eT2 hT2 => ?_⟩
      refine ⟨true, .ref T2, _, rfl, pts_sh eT2 hT2, w1, w2, w3, .ref S, rfl, true, .ref S, _, rfl, pts_sh (s7 _ _ (b6 _ _ nSp eSG)) ((htG.but ezs b6).same s7), w1, w2, w3, rfl, ?_⟩
      rw [decide_eq_true rfl]
      exact fin H7 (hp6.same s7) ((But.of_same sHG).trans (b6.trans (But.of_same s7)))
end
end Lw
/-! The law. -/
namespace Lw
open PySem PySem.Spec PyProof.Rows L2 Kv
abbrev NLaw : List Str := ["_law_script", "_law_k", "_law_pot_here", "_law_rows", "_law_world", "_law_many"]
theorem scLaw : FnScope NLaw ["_law_script"] (defScope sLaw) :=
  ⟨rfl, rfl, rfl, by decide +kernel, rfl, by decide +kernel, by decide +kernel⟩
theorem pow_small {l b k i m : Nat} (hl : l ≤ b) (hb : 1 ≤ b) (hi : i ≤ k) (hm : b ^ k ≤ m) : l ^ i ≤ m :=
  Nat.le_trans (Nat.pow_le_pow_left hl i) (Nat.le_trans (Nat.pow_le_pow_right hb hi) hm)
theorem few_of {rows : List Row2} {b k : Nat} (hl : rows.length ≤ b) (hb : 1 ≤ b) (hm : b ^ k ≤ 600) {n : Nat} (hn : n ≤ k) : Few rows n ∧ rows.length ^ n ≤ 600 :=
  ⟨fun i hi => Nat.le_trans (pow_small hl hb (Nat.le_trans hi hn) hm) (by decide), pow_small hl hb hn hm⟩
theorem few_nil (k : Nat) : Few [] k := fun i _ => by
  show 0 ^ i ≤ 8000
  cases i with
  | zero => decide
  | succ i => rw [Nat.zero_pow (Nat.succ_pos i)]; decide
theorem no_pts {k : Nat} (h : 1 ≤ k) : combos (List.replicate k (fsts [])) = [] := by
  refine List.eq_nil_of_length_eq_zero ?_
  rw [rep_len]
  show 0 ^ k = 0
  exact Nat.zero_pow h
theorem all_yes : ∀ j : Nat, (List.replicate j true).all id = true
  | 0 => rfl
  | j + 1 => by
    rw [List.replicate_succ, List.all_cons, all_yes j]
    rfl
theorem in3 {j : Nat} {v : V} (h : [V.int 1, V.int 2, V.int 3][j]? = some v) : ∃ k : Nat, v = .int k ∧ 1 ≤ k ∧ k ≤ 3 := by
  have hj : j < 3 := (List.getElem?_eq_some_iff.mp h).1
  have : j = 0 ∨ j = 1 ∨ j = 2 := by omega
  rcases this with rfl | rfl | rfl
  · exact ⟨1, (Option.some.inj h).symm, by decide, by decide⟩
  · exact ⟨2, (Option.some.inj h).symm, by decide, by decide⟩
  · exact ⟨3, (Option.some.inj h).symm, by decide, by decide⟩
theorem in2 {j : Nat} {v : V} (h : [V.int 1, V.int 2][j]? = some v) : ∃ k : Nat, v = .int k ∧ 1 ≤ k ∧ k ≤ 2 := by
  have hj : j < 2 := (List.getElem?_eq_some_iff.mp h).1
  have : j = 0 ∨ j = 1 := by omega
  rcases this with rfl | rfl
  · exact ⟨1, (Option.some.inj h).symm, by decide, by decide⟩
  · exact ⟨2, (Option.some.inj h).symm, by decide, by decide⟩
abbrev three : PyData := .list [.list [], .list [], .list []]
theorem three_eqv : PyData.eqv three three = true := by decide +kernel
theorem three_shaped : SeqAt.shaped three = true := by decide +kernel
section
variable {P : Program} {w : World} {K : PySem.W.Frag} {mg : Str → Option Value} {base : Heap}
theorem dp_nils {H : Hp} : ∀ {ls : List Addr}, (∀ l ∈ ls, H l = some (.lst [])) → DpAll K H (ls.map V.ref) (ls.map fun _ => PyData.list [])
  | [], _ => .nil
  | l :: r, h => .cons (.lst (.inl (.inl (h l (List.mem_cons_self ..)))) .nil) (dp_nils fun x hx => h x (List.mem_cons_of_mem _ hx))
def spLaw (K : PySem.W.Frag) : Sp := fun vs H Q _ => ∃ (a : Addr) (ns : List Int), vs = [.ref a] ∧ SqL K H a (ns.map V.int) ∧ ns.length ≤ 63 ∧ ∀ H', Q (.bl true) H'
theorem ok_law {f fI fP fK fA fR C T0 : Addr} {fd fdI fdP fdK fdA fdR : FuncData} {ds0 : List Value} (F : Fun K "law" "law" sLaw f fd) (T : HTxt K mg C) (M : Mk K C fI)
    (hT0 : SqT K (fun _ => none) T0 []) (bI0 : Binds K fdI ["self", "classes"] ds0) (vI0 : Vals [.ref T0] ds0) (bI1 : Binds K fdI ["self", "classes"] [])
    (FP : Fun K "_law_pot" "_law_pot" sPot fP fdP) (bP : Binds K fdP ["_law_script", "_law_k"] []) (gP : mg "_law_pot" = some (.ref fP))
    (FK : Fun K "_law_kinds" "_law_kinds" sKinds fK fdK) (bK : Binds K fdK ["_law_pot_here", "_law_most"] []) (gK : mg "_law_kinds" = some (.ref fK))
    (FA : Fun K "all_points" "all_points" sAllPts fA fdA) (bA : Binds K fdA ["hierarchy", "count"] []) (gA : mg "all_points" = some (.ref fA)) (GA : FnOk P w K mg base CX0 2 fA fdA ["hierarchy", "count"] (spAllP C))
    (FR : Fun K "_law_count_right" "_law_count_right" sCR fR fdR) (bR : Binds K fdR ["_law_pot_here", "_law_world", "_law_rows", "_law_many"] []) (gR : mg "_law_count_right" = some (.ref fR))
    (GR : FnG P w K mg base CX0 5 fR fdR ["_law_pot_here", "_law_world", "_law_rows", "_law_many"] (spCR C))
    (GI : FnOk P w K mg base CX0 3 fI fdI ["self", "classes"] (spInit K C)) (GP : FnOk P w K mg base CX0 1 fP fdP ["_law_script", "_law_k"] (spPot K))
    (GK : FnOk P w K mg base CX0 4 fK fdK ["_law_pot_here", "_law_most"] spKinds)
    (mr : mg "range" = none) (mx : mg "max" = none) (mn : mg "min" = none) (ml : mg "len" = none) (ma : mg "all" = none) :
    FnG P w K mg base CX0 6 f fd ["_law_script"] (spLaw K) := by
  refine okG F scLaw (fun vs H Q E h => ?_) (fun cdv A outer s H vs Q E hg hr h => ?_)
  · obtain ⟨a, ns, rfl, _⟩ := h
    rfl
  · obtain ⟨a, ns, rfl, hS, hlen, q⟩ := h
    have hr4 := hr.mono (by decide : 4 ≤ 5)
    have hr2 := hr.mono (by decide : 2 ≤ 5)
    refine ⟨_, pss_cons (ps_if (pt_cmpR (op_neD hr.units)
          (pe_lc (own := [("_law_many", 5)]) (g := gName 5) (tt := tYes) rfl scLaw.nd (pi_tup (pe_tup (pa_cons pe_int (pa_cons pe_int (pa_cons pe_int pa_nil)))))
            (blkOk_by (own := [("_law_many", 5)]) (N := NLaw) (sc := defScope sLaw) (by decide +kernel))
            (fun _ _ _ _ _ => pg_name (i := 5) scLaw.nd rfl (Or.inl rfl)) (fun _ _ _ _ _ => pts_nil)
            (fun _ _ _ _ _ => pe_call GA hr2 (by rfl) gA FA.kp bA .nil pass0 (pa_cons (pe_make0 M GI hr4 (by rfl) T.mgC bI0 vI0 pass0) (pa_cons (pv 5) pa_nil))))
          (pe_lst (pa_cons (pe_lst pa_nil) (pa_cons (pe_lst pa_nil) (pa_cons (pe_lst pa_nil) pa_nil)))) (nomark _)) (pss_one (ps_ret pe_bl)) pss_nil)
      (pss_cons (ps_for PassesOwn.never rfl (pi_range1 rfl mr (pa_cons
          (pe_callB (call_max2 rfl) (by rfl) mx (by decide +kernel) (pa_cons pe_int (pa_cons
            (pe_callB (call_min2 rfl) (by rfl) mn (by decide +kernel) (pa_cons pe_int (pa_cons (pe_callB call_len_seq (by rfl) ml PySem.boot_len (pa_cons (pv 0) pa_nil)) pa_nil))) pa_nil))) pa_nil))
        (pg_name (i := 1) scLaw.nd rfl (.inl rfl))
        (pss_cons (ps_set (i := 2) scLaw.nd rfl (.inr rfl) (pe_call GP (hr.mono (by decide)) (by rfl) gP FP.kp bP .nil pass0 (pa_cons (pv 0) (pa_cons (pv 1) pa_nil))))
        (pss_cons (ps_set (i := 3) scLaw.nd rfl (.inr rfl) (pe_call GK hr4 (by rfl) gK FK.kp bK .nil pass0 (pa_cons (pv 2) (pa_cons pe_int pa_nil))))
        (pss_cons (ps_set (i := 4) scLaw.nd rfl (.inr rfl) (pe_make M GI hr4 (by rfl) T.mgC bI1 .nil pass0 (pa_cons (pv 3) pa_nil)))
        (pss_cons (ps_if (pt_not (pt_val (pe_callB (cr_all rfl) (by rfl) ma (by decide +kernel) (pa_cons
            (pe_lc (own := [("_law_many", 5)]) (g := gName 5) (tt := tYes) rfl scLaw.nd (pi_tup (pe_tup (pa_cons pe_int (pa_cons pe_int (pa_cons pe_int pa_nil)))))
              (blkOk_by (own := [("_law_many", 5)]) (N := NLaw) (sc := defScope sLaw) (by decide +kernel))
              (fun _ _ _ _ _ => pg_name (i := 5) scLaw.nd rfl (Or.inl rfl)) (fun _ _ _ _ _ => pts_nil)
              (fun _ _ _ _ _ => pe_callG GR hg hr (by rfl) gR FR.kp bR .nil pass0 (pa_cons (pv 2) (pa_cons (pv 4) (pa_cons (pv 3) (pa_cons (pv 5) pa_nil)))))) pa_nil)))) (pss_one (ps_ret pe_bl)) pss_nil)
        (pss_cons (ps_set (i := 3) scLaw.nd rfl (.inr rfl) (pe_call GK hr4 (by rfl) gK FK.kp bK .nil pass0 (pa_cons (pv 2) (pa_cons pe_int pa_nil))))
        (pss_one (ps_if (pt_not (pt_val (pe_callB (cr_all rfl) (by rfl) ma (by decide +kernel) (pa_cons
            (pe_lc (own := [("_law_many", 5)]) (g := gName 5) (tt := tYes) rfl scLaw.nd (pi_tup (pe_tup (pa_cons pe_int (pa_cons pe_int pa_nil))))
              (blkOk_by (own := [("_law_many", 5)]) (N := NLaw) (sc := defScope sLaw) (by decide +kernel))
              (fun _ _ _ _ _ => pg_name (i := 5) scLaw.nd rfl (Or.inl rfl)) (fun _ _ _ _ _ => pts_nil)
              (fun _ _ _ _ _ => pe_callG GR hg hr (by rfl) gR FR.kp bR .nil pass0 (pa_cons (pv 2) (pa_cons (pe_make M GI hr4 (by rfl) T.mgC bI1 .nil pass0 (pa_cons (pv 3) pa_nil)) (pa_cons (pv 3) (pa_cons (pv 5) pa_nil)))))) pa_nil)))) (pss_one (ps_ret pe_bl)) pss_nil))))))))
      (pss_one (ps_ret pe_bl))), ?_⟩
    refine ⟨(by decide : 3 ≤ sizeLine), fun t0 nt0 => ?_⟩
    have q0 := same_new (o := .tup [.int 1, .int 2, .int 3]) nt0
    refine ⟨t0, rfl, ⟨_, .inl (.inl upd_same)⟩, fun D nD => ?_⟩
    have nt0D : t0 ≠ D := ne_of_none upd_same nD
    have nD0 : H D = none := q0.free nD
    refine lc_tup (xs := [.int 1, .int 2, .int 3]) (fun j H3 => ∃ ls : List Addr, H3 D = some (.lst (ls.map V.ref)) ∧ (∀ l ∈ ls, H3 l = some (.lst []) ∧ l ≠ D) ∧ ls.length = j ∧ H3 t0 = some (.tup [.int 1, .int 2, .int 3]) ∧ Same H H3)
      ⟨[], upd_same, fun l h => (nomatch h), rfl, by rw [upd_ne nt0D]; exact upd_same, q0.trans (same_new nD)⟩ (fun j H3 _ hP => ?_) (fun j v H3 hv hP => ?_) (fun H3 hP => ?_)
    · obtain ⟨_, _, _, _, e, _⟩ := hP
      exact .inl (.inl e)
    · obtain ⟨ls, eD, hls, hj, e0, s3⟩ := hP
      obtain ⟨n, rfl, n1, n3⟩ := in3 hv
      have hj3 : j < 3 := (List.getElem?_eq_some_iff.mp hv).1
      refine ⟨rfl, ?_⟩
      intro x0 dx0 nx ndx nex
      have hs0 : Same H3 (upd (upd H3 dx0 (.own x0)) x0 (.ins C dx0 [])) := by
        intro b o e
        rw [upd_ne (ne_of_none e nx), upd_ne (ne_of_none e ndx)]
        exact e
      refine ⟨x0, dx0, T0, [], [], rfl, upd_same, .inr ⟨sqT_same hT0 (fun b o e => (nomatch e)), rfl⟩, .nil, valid_nil, by decide, fun H4 hH4 b4 => ⟨rfl, ?_⟩⟩
      have s34 : Same H3 H4 := fun b o e => b4 _ _ (ne_of_none e nx) (hs0 _ _ e)
      refine ⟨.int n, rfl, x0, n, [], rfl, hH4, n1, n3, few_nil n, fun H5 L ts s5 nL eL hts => ?_⟩
      rw [no_pts n1] at hts
      have et : ts = [] := List.eq_nil_of_length_eq_zero hts.length
      subst et
      have s35 := s34.trans s5
      have nLD : L ≠ D := fun z => by rw [z, s34 _ _ eD] at nL; cases nL
      refine ⟨_, s35 _ _ eD, ?_, ls ++ [L], ?_, ?_, ?_, ?_, ?_⟩
      · rw [List.length_map]
        exact sz1 (by omega)
      · rw [upd_same, List.map_append]
        rfl
      · intro l hl
        rcases List.mem_append.mp hl with z | z
        · obtain ⟨z1, z2⟩ := hls l z
          exact ⟨by rw [upd_ne z2]; exact s35 _ _ z1, z2⟩
        · rw [List.mem_singleton.mp z]
          exact ⟨by rw [upd_ne nLD]; exact eL, nLD⟩
      · rw [List.length_append, hj]
        rfl
      · rw [upd_ne nt0D]
        exact s35 _ _ e0
      · intro b o hb
        rw [upd_ne (ne_of_none hb nD0)]
        exact s35 _ _ (s3 _ _ hb)
    · obtain ⟨ls, eD, hls, hj, e0, s3⟩ := hP
      refine ⟨(by decide : 0 ≤ sizeLine), fun a1 m1 => ⟨(by decide : 0 ≤ sizeLine), fun a2 m2 => ⟨(by decide : 0 ≤ sizeLine), fun a3 m3 => ⟨(by decide : 3 ≤ sizeLine), fun a4 m4 => ?_⟩⟩⟩⟩
      have r1 := same_new (o := .lst []) m1
      have r2 := same_new (o := .lst []) m2
      have r3 := same_new (o := .lst []) m3
      have r4 := same_new (o := .lst [.ref a1, .ref a2, .ref a3]) m4
      have r14 := r1.trans (r2.trans (r3.trans r4))
      have d1 : Dp K (upd (upd (upd (upd H3 a1 (.lst [])) a2 (.lst [])) a3 (.lst [])) a4 (.lst [.ref a1, .ref a2, .ref a3])) (.ref D) three := by
        refine .lst (.inl (.inl (r14 _ _ eD))) ?_
        have := dp_nils (K := K) (H := upd (upd (upd (upd H3 a1 (.lst [])) a2 (.lst [])) a3 (.lst [])) a4 (.lst [.ref a1, .ref a2, .ref a3])) (ls := ls) fun l hl => r14 _ _ (hls l hl).1
        have e3 : ls.map (fun _ => PyData.list []) = [.list [], .list [], .list []] := by
          obtain ⟨b1, b2, b3, rfl⟩ : ∃ b1 b2 b3, ls = [b1, b2, b3] := by
            match ls, hj with
            | [b1, b2, b3], _ => exact ⟨b1, b2, b3, rfl⟩
          rfl
        rw [e3] at this
        exact this
      have d2 : Dp K (upd (upd (upd (upd H3 a1 (.lst [])) a2 (.lst [])) a3 (.lst [])) a4 (.lst [.ref a1, .ref a2, .ref a3])) (.ref a4) three :=
        .lst (.inl (.inl upd_same)) (.cons (.lst (.inl (.inl ((r2.trans (r3.trans r4)) _ _ upd_same))) .nil) (.cons (.lst (.inl (.inl ((r3.trans r4) _ _ upd_same))) .nil) (.cons (.lst (.inl (.inl (r4 _ _ upd_same))) .nil) .nil)))
      refine ⟨three, three, d1, d2, three_shaped, three_shaped, _, rfl, ?_⟩
      rw [three_eqv]
      refine iteF ?_
      have sH5 := s3.trans r14
      clear d1 d2
      generalize upd (upd (upd (upd H3 a1 (.lst [])) a2 (.lst [])) a3 (.lst [])) a4 (.lst [.ref a1, .ref a2, .ref a3]) = H5 at sH5
      refine ⟨.ref a, rfl, a, _, rfl, .inl (sH5.seq hS), _, _, rfl, _, _, rfl, _, rfl, ?_, ?_, ?_⟩
      · rw [List.length_map]
        split <;> split <;> omega
      · rw [List.length_map]
        split <;> split <;> omega
      · refine for_range (fun i σ H6 => ∃ y1 y2 y3 y4, σ = [some (.ref a), y1, y2, y3, y4, none] ∧ i ≤ 100 ∧ Same H H6)
          ⟨none, none, none, none, rfl, by decide, sH5⟩ (fun i σ H6 hi hP => ?_) (fun σ H6 hP => ?_)
        · obtain ⟨y1, y2, y3, y4, rfl, hi2, s6⟩ := hP
          have hi3 : i < 100 := by
            rw [List.length_map] at hi
            revert hi
            split <;> split <;> omega
          refine ⟨.ref a, rfl, .int (0 + (i : Int)), rfl, a, ns, i, by rw [Int.zero_add]; rfl, s6.seq hS, by omega, fun p H7 s7 np hp => ?_⟩
          have np0 : H p = none := s6.free np
          have s07 := s6.trans s7
          refine ⟨.ref p, rfl, p, 8, rfl, hp, by decide, by decide, fun H8 R us rows hp8 b8 nR neR eR era eva l1 l2 => ?_⟩
          have s08 : Same H H8 := b8.same np0 s07
          refine ⟨.ref R, rfl, ?_⟩
          intro x dx nx8 ndx8 nex8
          have hsM : Same H8 (upd (upd H8 dx (.own x)) x (.ins C dx [])) := by
            intro b o e
            rw [upd_ne (ne_of_none e nx8), upd_ne (ne_of_none e ndx8)]
            exact e
          refine ⟨x, dx, R, us, rows, rfl, upd_same, .inl (.inl (.inl (hsM _ _ eR))), era.same hsM, eva, by omega, fun H9 hH9 b9 => ⟨rfl, ?_⟩⟩
          have s89 : Same H8 H9 := fun b o e => b9 _ _ (ne_of_none e nx8) (hsM _ _ e)
          refine ⟨(by decide : 3 ≤ sizeLine), fun t1 nt1 => ?_⟩
          have u1 := same_new (o := .tup [.int 1, .int 2, .int 3]) nt1
          have et1 : (upd H9 t1 (.tup [.int 1, .int 2, .int 3])) t1 = some (.tup [.int 1, .int 2, .int 3]) := upd_same
          have s8G := s89.trans u1
          have hpG := hp8.same s8G
          have hHG := hH9.same u1
          have eRG := s8G _ _ eR
          have eraG := era.same s8G
          have s0G := s08.trans s8G
          generalize upd H9 t1 (.tup [.int 1, .int 2, .int 3]) = G at *
          have nt1p : t1 ≠ p := by
            obtain ⟨r, g, ep, _⟩ := hpG
            exact ne_of et1 ep (by intro z; cases z)
          refine ⟨t1, rfl, ⟨_, .inl (.inl et1)⟩, fun D1 nD1 => ?_⟩
          have pD1 : p ≠ D1 := by
            obtain ⟨_, _, ep, _⟩ := hpG
            exact ne_of_none ep nD1
          refine lc_tup (xs := [.int 1, .int 2, .int 3]) (fun j H11 => H11 D1 = some (.lst ((List.replicate j true).map V.bl)) ∧ PotAt H11 p ∧ But p G H11 ∧ j ≤ 3)
            ⟨upd_same, hpG.same (same_new nD1), But.of_same (same_new nD1), by decide⟩ (fun j H11 _ hP => .inl (.inl (hP.2.2.1 _ _ nt1p et1))) (fun j v H11 hv hP => ?_) (fun H11 hP => ?_)
          · obtain ⟨eD1, hp11, b11, _⟩ := hP
            obtain ⟨n, rfl, n1, n3⟩ := in3 hv
            have hj3 : j < 3 := (List.getElem?_eq_some_iff.mp hv).1
            obtain ⟨fw1, fw2⟩ := few_of (k := 3) l2 (by decide) (by decide) n3
            refine ⟨rfl, .ref p, rfl, .ref x, rfl, .ref R, rfl, .int n, rfl, p, x, R, n, us, rows, rfl, hp11, hHG.but hpG b11, b11 _ _ neR eRG, neR, eraG.but hpG b11, eva, l1, by omega, n1, n3, fw1, fw2, fun H12 hp12 b12 => ?_⟩
            refine ⟨_, b12 _ _ pD1.symm eD1, ?_, ?_, ?_, ?_, by omega⟩
            · rw [List.length_map, List.length_replicate]
              exact sz1 (by omega)
            · rw [upd_same, List.replicate_succ', List.map_append]
              rfl
            · obtain ⟨r, g, e, h⟩ := hp12
              exact ⟨r, g, by rw [upd_ne pD1]; exact e, h⟩
            · intro b o nb hb
              rw [upd_ne (ne_of_none hb nD1)]
              exact b12 _ _ nb (b11 _ _ nb hb)
          · obtain ⟨eD1, hp11, b11, _⟩ := hP
            refine ⟨D1, _, rfl, .inl (.inl eD1), _, rfl, ?_⟩
            rw [all_yes]
            refine iteF ?_
            have s11 : Same H H11 := b11.same np0 s0G
            refine ⟨.ref p, rfl, p, 20, rfl, hp11, by decide, by decide, fun J8 R2 us2 rows2 jp8 jb8 jnR jneR jeR jera jeva jl1 jl2 => ?_⟩
            have s0J : Same H J8 := jb8.same np0 s11
            refine ⟨(by decide : 2 ≤ sizeLine), fun t2 nt2 => ?_⟩
            have u2 := same_new (o := .tup [.int 1, .int 2]) nt2
            have et2 : (upd J8 t2 (.tup [.int 1, .int 2])) t2 = some (.tup [.int 1, .int 2]) := upd_same
            have jpG := jp8.same u2
            have jeRG := u2 _ _ jeR
            have jeraG := jera.same u2
            have s0G2 := s0J.trans u2
            generalize upd J8 t2 (.tup [.int 1, .int 2]) = G2 at *
            have nt2p : t2 ≠ p := by
              obtain ⟨r, g, ep, _⟩ := jpG
              exact ne_of et2 ep (by intro z; cases z)
            refine ⟨t2, rfl, ⟨_, .inl (.inl et2)⟩, fun D2 nD2 => ?_⟩
            have pD2 : p ≠ D2 := by
              obtain ⟨_, _, ep, _⟩ := jpG
              exact ne_of_none ep nD2
            refine lc_tup (xs := [.int 1, .int 2]) (fun j H12 => H12 D2 = some (.lst ((List.replicate j true).map V.bl)) ∧ PotAt H12 p ∧ But p G2 H12 ∧ j ≤ 2)
              ⟨upd_same, jpG.same (same_new nD2), But.of_same (same_new nD2), by decide⟩ (fun j H12 _ hP => .inl (.inl (hP.2.2.1 _ _ nt2p et2))) (fun j v H12 hv hP => ?_) (fun H12 hP => ?_)
            · obtain ⟨eD2, hp12, b12, _⟩ := hP
              obtain ⟨n, rfl, n1, n2⟩ := in2 hv
              have hj2 : j < 2 := (List.getElem?_eq_some_iff.mp hv).1
              obtain ⟨fw1, fw2⟩ := few_of (k := 2) jl2 (by decide) (by decide) n2
              refine ⟨rfl, .ref p, rfl, .ref R2, rfl, ?_⟩
              intro x2 dx2 nx2 ndx2 nex2
              have hsN : Same H12 (upd (upd H12 dx2 (.own x2)) x2 (.ins C dx2 [])) := by
                intro b o e
                rw [upd_ne (ne_of_none e nx2), upd_ne (ne_of_none e ndx2)]
                exact e
              have R12 := b12 _ _ jneR jeRG
              have era12 := jeraG.but jpG b12
              refine ⟨x2, dx2, R2, us2, rows2, rfl, upd_same, .inl (.inl (.inl (hsN _ _ R12))), era12.same hsN, jeva, by omega, fun H13 hH13 b13 => ⟨rfl, ?_⟩⟩
              have s13 : Same H12 H13 := fun b o e => b13 _ _ (ne_of_none e nx2) (hsN _ _ e)
              refine ⟨.ref R2, rfl, .int n, rfl, p, x2, R2, n, us2, rows2, rfl, hp12.same s13, hH13, s13 _ _ R12, jneR, era12.same s13, jeva, jl1, jl2, n1, by omega, fw1, fw2, fun H14 hp14 b14 => ?_⟩
              refine ⟨_, b14 _ _ pD2.symm (s13 _ _ eD2), ?_, ?_, ?_, ?_, by omega⟩
              · rw [List.length_map, List.length_replicate]
                exact sz1 (by omega)
              · rw [upd_same, List.replicate_succ', List.map_append]
                rfl
              · obtain ⟨r, g, e, h⟩ := hp14
                exact ⟨r, g, by rw [upd_ne pD2]; exact e, h⟩
              · intro b o nb hb
                rw [upd_ne (ne_of_none hb nD2)]
                exact b14 _ _ nb (s13 _ _ (b12 _ _ nb hb))
            · obtain ⟨eD2, hp12, b12, _⟩ := hP
              refine ⟨D2, _, rfl, .inl (.inl eD2), _, rfl, ?_⟩
              rw [all_yes]
              exact iteF ⟨_, _, _, _, rfl, by omega, b12.same np0 s0G2⟩
        · obtain ⟨y1, y2, y3, y4, rfl, _, s6⟩ := hP
          exact q _
end
end Lw
namespace Lw
open PySem PySem.Spec PyProof.Rows L2 Kv
theorem all_mk {l : PySem.W.OpenLaw} {w : World} {K : PySem.W.Frag} {h : Heap} {mg : Str → Option Value} {fa C f0 f1 f2 f3 f4 f5 f6 f7 f8 f9 f10 f11 f12 f13 f14 f15 f16 f17 f18 f19 f20 f21 h0 h1 h2 h3 h4 : Addr}
    {u0 : Tok} {u1 : Tok} {u2 : Tok} (X : K.In h) (G : h.Ns mainGlobals mg) (hfa : mg "law" = some (.ref fa))
    (a0 : PySem.W.nsIn K mainGlobals "is_parameter_count" = some (some (.ref f0)))
    {oc0 kV0 dc0 pm0 cd0 ct0 : Value} {od0 an0 : Option Addr} {sl0 : Array (Option Value)}
    (l0 : K.lookup f0 = some ⟨oc0, od0, .func (PySem.W.fnOf "is_parameter_count" "is_parameter_count" (defArgs sIsCount) (defBody sIsCount) (defScope sIsCount)
      .none kV0 dc0 pm0 an0 cd0 ct0), sl0⟩)
    (c0 : PySem.W.codeIn K cd0 "is_parameter_count" = true) (k0 : PySem.W.keepIn K (.ref f0) = true)
    (a1 : PySem.W.nsIn K mainGlobals "is_point" = some (some (.ref f1)))
    {oc1 kV1 dc1 pm1 cd1 ct1 : Value} {od1 an1 : Option Addr} {sl1 : Array (Option Value)}
    (l1 : K.lookup f1 = some ⟨oc1, od1, .func (PySem.W.fnOf "is_point" "is_point" (defArgs sIsPoint) (defBody sIsPoint) (defScope sIsPoint)
      .none kV1 dc1 pm1 an1 cd1 ct1), sl1⟩)
    (c1 : PySem.W.codeIn K cd1 "is_point" = true) (k1 : PySem.W.keepIn K (.ref f1) = true)
    (a2 : PySem.W.nsIn K mainGlobals "require_point" = some (some (.ref f2)))
    {oc2 kV2 dc2 pm2 cd2 ct2 : Value} {od2 an2 : Option Addr} {sl2 : Array (Option Value)}
    (l2 : K.lookup f2 = some ⟨oc2, od2, .func (PySem.W.fnOf "require_point" "require_point" (defArgs sReq) (defBody sReq) (defScope sReq)
      .none kV2 dc2 pm2 an2 cd2 ct2), sl2⟩)
    (c2 : PySem.W.codeIn K cd2 "require_point" = true) (k2 : PySem.W.keepIn K (.ref f2) = true)
    (a3 : PySem.W.nsIn K mainGlobals "combinations" = some (some (.ref f3)))
    {oc3 kV3 dc3 pm3 cd3 ct3 : Value} {od3 an3 : Option Addr} {sl3 : Array (Option Value)}
    (l3 : K.lookup f3 = some ⟨oc3, od3, .func (PySem.W.fnOf "combinations" "combinations" (defArgs sComb) (defBody sComb) (defScope sComb)
      .none kV3 dc3 pm3 an3 cd3 ct3), sl3⟩)
    (c3 : PySem.W.codeIn K cd3 "combinations" = true) (k3 : PySem.W.keepIn K (.ref f3) = true)
    (a4 : PySem.W.nsIn K mainGlobals "all_points" = some (some (.ref f4)))
    {oc4 kV4 dc4 pm4 cd4 ct4 : Value} {od4 an4 : Option Addr} {sl4 : Array (Option Value)}
    (l4 : K.lookup f4 = some ⟨oc4, od4, .func (PySem.W.fnOf "all_points" "all_points" (defArgs sAllPts) (defBody sAllPts) (defScope sAllPts)
      .none kV4 dc4 pm4 an4 cd4 ct4), sl4⟩)
    (c4 : PySem.W.codeIn K cd4 "all_points" = true) (k4 : PySem.W.keepIn K (.ref f4) = true)
    (a5 : PySem.W.nsIn K mainGlobals "points_at_or_below" = some (some (.ref f5)))
    {oc5 kV5 dc5 pm5 cd5 ct5 : Value} {od5 an5 : Option Addr} {sl5 : Array (Option Value)}
    (l5 : K.lookup f5 = some ⟨oc5, od5, .func (PySem.W.fnOf "points_at_or_below" "points_at_or_below" (defArgs sPtsBelow) (defBody sPtsBelow) (defScope sPtsBelow)
      .none kV5 dc5 pm5 an5 cd5 ct5), sl5⟩)
    (c5 : PySem.W.codeIn K cd5 "points_at_or_below" = true) (k5 : PySem.W.keepIn K (.ref f5) = true)
    (a6 : PySem.W.nsIn K mainGlobals "is_name" = some (some (.ref f6)))
    {oc6 kV6 dc6 pm6 cd6 ct6 : Value} {od6 an6 : Option Addr} {sl6 : Array (Option Value)}
    (l6 : K.lookup f6 = some ⟨oc6, od6, .func (PySem.W.fnOf "is_name" "is_name" (defArgs sIsName) (defBody sIsName) (defScope sIsName)
      .none kV6 dc6 pm6 an6 cd6 ct6), sl6⟩)
    (c6 : PySem.W.codeIn K cd6 "is_name" = true) (k6 : PySem.W.keepIn K (.ref f6) = true)
    (a7 : PySem.W.nsIn K mainGlobals "are_superclasses" = some (some (.ref f7)))
    {oc7 kV7 dc7 pm7 cd7 ct7 : Value} {od7 an7 : Option Addr} {sl7 : Array (Option Value)}
    (l7 : K.lookup f7 = some ⟨oc7, od7, .func (PySem.W.fnOf "are_superclasses" "are_superclasses" (defArgs sAre) (defBody sAre) (defScope sAre)
      .none kV7 dc7 pm7 an7 cd7 ct7), sl7⟩)
    (c7 : PySem.W.codeIn K cd7 "are_superclasses" = true) (k7 : PySem.W.keepIn K (.ref f7) = true)
    (a8 : PySem.W.nsIn K mainGlobals "row_problem" = some (some (.ref f8)))
    {oc8 kV8 dc8 pm8 cd8 ct8 : Value} {od8 an8 : Option Addr} {sl8 : Array (Option Value)}
    (l8 : K.lookup f8 = some ⟨oc8, od8, .func (PySem.W.fnOf "row_problem" "row_problem" (defArgs sProb) (defBody sProb) (defScope sProb)
      .none kV8 dc8 pm8 an8 cd8 ct8), sl8⟩)
    (c8 : PySem.W.codeIn K cd8 "row_problem" = true) (k8 : PySem.W.keepIn K (.ref f8) = true)
    (a9 : PySem.W.nsIn K mainGlobals "ancestors_of" = some (some (.ref f9)))
    {oc9 kV9 dc9 pm9 cd9 ct9 : Value} {od9 an9 : Option Addr} {sl9 : Array (Option Value)}
    (l9 : K.lookup f9 = some ⟨oc9, od9, .func (PySem.W.fnOf "ancestors_of" "ancestors_of" (defArgs sAnc) (defBody sAnc) (defScope sAnc)
      .none kV9 dc9 pm9 an9 cd9 ct9), sl9⟩)
    (c9 : PySem.W.codeIn K cd9 "ancestors_of" = true) (k9 : PySem.W.keepIn K (.ref f9) = true)
    (a10 : PySem.W.nsIn K mainGlobals "_law_pot" = some (some (.ref f10)))
    {oc10 kV10 dc10 pm10 cd10 ct10 : Value} {od10 an10 : Option Addr} {sl10 : Array (Option Value)}
    (l10 : K.lookup f10 = some ⟨oc10, od10, .func (PySem.W.fnOf "_law_pot" "_law_pot" (defArgs sPot) (defBody sPot) (defScope sPot)
      .none kV10 dc10 pm10 an10 cd10 ct10), sl10⟩)
    (c10 : PySem.W.codeIn K cd10 "_law_pot" = true) (k10 : PySem.W.keepIn K (.ref f10) = true)
    (a11 : PySem.W.nsIn K mainGlobals "_law_draw" = some (some (.ref f11)))
    {oc11 kV11 dc11 pm11 cd11 ct11 : Value} {od11 an11 : Option Addr} {sl11 : Array (Option Value)}
    (l11 : K.lookup f11 = some ⟨oc11, od11, .func (PySem.W.fnOf "_law_draw" "_law_draw" (defArgs sDraw) (defBody sDraw) (defScope sDraw)
      .none kV11 dc11 pm11 an11 cd11 ct11), sl11⟩)
    (c11 : PySem.W.codeIn K cd11 "_law_draw" = true) (k11 : PySem.W.keepIn K (.ref f11) = true)
    (a12 : PySem.W.nsIn K mainGlobals "_law_mixed" = some (some (.ref f12)))
    {oc12 kV12 dc12 pm12 cd12 ct12 : Value} {od12 an12 : Option Addr} {sl12 : Array (Option Value)}
    (l12 : K.lookup f12 = some ⟨oc12, od12, .func (PySem.W.fnOf "_law_mixed" "_law_mixed" (defArgs sMixed) (defBody sMixed) (defScope sMixed)
      .none kV12 dc12 pm12 an12 cd12 ct12), sl12⟩)
    (c12 : PySem.W.codeIn K cd12 "_law_mixed" = true) (k12 : PySem.W.keepIn K (.ref f12) = true)
    (a13 : PySem.W.nsIn K mainGlobals "_law_name" = some (some (.ref f13)))
    {oc13 kV13 dc13 pm13 cd13 ct13 : Value} {od13 an13 : Option Addr} {sl13 : Array (Option Value)}
    (l13 : K.lookup f13 = some ⟨oc13, od13, .func (PySem.W.fnOf "_law_name" "_law_name" (defArgs sName) (defBody sName) (defScope sName)
      .none kV13 dc13 pm13 an13 cd13 ct13), sl13⟩)
    (c13 : PySem.W.codeIn K cd13 "_law_name" = true) (k13 : PySem.W.keepIn K (.ref f13) = true)
    (a14 : PySem.W.nsIn K mainGlobals "_law_names" = some (some (.ref f14)))
    {oc14 kV14 dc14 pm14 cd14 ct14 : Value} {od14 an14 : Option Addr} {sl14 : Array (Option Value)}
    (l14 : K.lookup f14 = some ⟨oc14, od14, .func (PySem.W.fnOf "_law_names" "_law_names" (defArgs sNames) (defBody sNames) (defScope sNames)
      .none kV14 dc14 pm14 an14 cd14 ct14), sl14⟩)
    (c14 : PySem.W.codeIn K cd14 "_law_names" = true) (k14 : PySem.W.keepIn K (.ref f14) = true)
    (a15 : PySem.W.nsIn K mainGlobals "_law_kinds" = some (some (.ref f15)))
    {oc15 kV15 dc15 pm15 cd15 ct15 : Value} {od15 an15 : Option Addr} {sl15 : Array (Option Value)}
    (l15 : K.lookup f15 = some ⟨oc15, od15, .func (PySem.W.fnOf "_law_kinds" "_law_kinds" (defArgs sKinds) (defBody sKinds) (defScope sKinds)
      .none kV15 dc15 pm15 an15 cd15 ct15), sl15⟩)
    (c15 : PySem.W.codeIn K cd15 "_law_kinds" = true) (k15 : PySem.W.keepIn K (.ref f15) = true)
    (a16 : PySem.W.nsIn K mainGlobals "_law_above" = some (some (.ref f16)))
    {oc16 kV16 dc16 pm16 cd16 ct16 : Value} {od16 an16 : Option Addr} {sl16 : Array (Option Value)}
    (l16 : K.lookup f16 = some ⟨oc16, od16, .func (PySem.W.fnOf "_law_above" "_law_above" (defArgs sAbove) (defBody sAbove) (defScope sAbove)
      .none kV16 dc16 pm16 an16 cd16 ct16), sl16⟩)
    (c16 : PySem.W.codeIn K cd16 "_law_above" = true) (k16 : PySem.W.keepIn K (.ref f16) = true)
    (a17 : PySem.W.nsIn K mainGlobals "_law_ups" = some (some (.ref f17)))
    {oc17 kV17 dc17 pm17 cd17 ct17 : Value} {od17 an17 : Option Addr} {sl17 : Array (Option Value)}
    (l17 : K.lookup f17 = some ⟨oc17, od17, .func (PySem.W.fnOf "_law_ups" "_law_ups" (defArgs sUps) (defBody sUps) (defScope sUps)
      .none kV17 dc17 pm17 an17 cd17 ct17), sl17⟩)
    (c17 : PySem.W.codeIn K cd17 "_law_ups" = true) (k17 : PySem.W.keepIn K (.ref f17) = true)
    (a18 : PySem.W.nsIn K mainGlobals "_law_is_under" = some (some (.ref f18)))
    {oc18 kV18 dc18 pm18 cd18 ct18 : Value} {od18 an18 : Option Addr} {sl18 : Array (Option Value)}
    (l18 : K.lookup f18 = some ⟨oc18, od18, .func (PySem.W.fnOf "_law_is_under" "_law_is_under" (defArgs sUnder) (defBody sUnder) (defScope sUnder)
      .none kV18 dc18 pm18 an18 cd18 ct18), sl18⟩)
    (c18 : PySem.W.codeIn K cd18 "_law_is_under" = true) (k18 : PySem.W.keepIn K (.ref f18) = true)
    (a19 : PySem.W.nsIn K mainGlobals "_law_all_points" = some (some (.ref f19)))
    {oc19 kV19 dc19 pm19 cd19 ct19 : Value} {od19 an19 : Option Addr} {sl19 : Array (Option Value)}
    (l19 : K.lookup f19 = some ⟨oc19, od19, .func (PySem.W.fnOf "_law_all_points" "_law_all_points" (defArgs sLAll) (defBody sLAll) (defScope sLAll)
      .none kV19 dc19 pm19 an19 cd19 ct19), sl19⟩)
    (c19 : PySem.W.codeIn K cd19 "_law_all_points" = true) (k19 : PySem.W.keepIn K (.ref f19) = true)
    (a20 : PySem.W.nsIn K mainGlobals "_law_count_right" = some (some (.ref f20)))
    {oc20 kV20 dc20 pm20 cd20 ct20 : Value} {od20 an20 : Option Addr} {sl20 : Array (Option Value)}
    (l20 : K.lookup f20 = some ⟨oc20, od20, .func (PySem.W.fnOf "_law_count_right" "_law_count_right" (defArgs sCR) (defBody sCR) (defScope sCR)
      .none kV20 dc20 pm20 an20 cd20 ct20), sl20⟩)
    (c20 : PySem.W.codeIn K cd20 "_law_count_right" = true) (k20 : PySem.W.keepIn K (.ref f20) = true)
    (a21 : PySem.W.nsIn K mainGlobals "law" = some (some (.ref f21)))
    {oc21 kV21 dc21 pm21 cd21 ct21 : Value} {od21 an21 : Option Addr} {sl21 : Array (Option Value)}
    (l21 : K.lookup f21 = some ⟨oc21, od21, .func (PySem.W.fnOf "law" "law" (defArgs sLaw) (defBody sLaw) (defScope sLaw)
      .none kV21 dc21 pm21 an21 cd21 ct21), sl21⟩)
    (c21 : PySem.W.codeIn K cd21 "law" = true) (k21 : PySem.W.keepIn K (.ref f21) = true)
    (aC : PySem.W.nsIn K mainGlobals "Hierarchy" = some (some (.ref C)))
    {TD T0 : Addr} {ocT : Value} {odT odU : Option Addr} {nT nU : Nat} {slT slU : Array (Option Value)} {uL : Tok}
    (m0 : PySem.W.findIn K (.ref C) "__init__" = some (some (.ref h0))) (i0 : PySem.W.isFn K (.ref h0) = true)
    {ocM0 kVM0 dcM0 pmM0 cdM0 ctM0 : Value} {odM0 anM0 : Option Addr} {slM0 : Array (Option Value)}
    (lM0 : K.lookup h0 = some ⟨ocM0, odM0, .func (PySem.W.fnOf "__init__" "Hierarchy.__init__" (defArgs m_init) (defBody m_init) (defScope m_init)
      (.ref TD) kVM0 dcM0 pmM0 anM0 cdM0 ctM0), slM0⟩)
    (cM0 : PySem.W.codeIn K cdM0 "Hierarchy.__init__" = true) (kM0 : PySem.W.keepIn K (.ref h0) = true)
    (m1 : PySem.W.findIn K (.ref C) "has_class" = some (some (.ref h1))) (i1 : PySem.W.isFn K (.ref h1) = true)
    {ocM1 kVM1 dcM1 pmM1 cdM1 ctM1 : Value} {odM1 anM1 : Option Addr} {slM1 : Array (Option Value)}
    (lM1 : K.lookup h1 = some ⟨ocM1, odM1, .func (PySem.W.fnOf "has_class" "Hierarchy.has_class" (defArgs m_has_class) (defBody m_has_class) (defScope m_has_class)
      .none kVM1 dcM1 pmM1 anM1 cdM1 ctM1), slM1⟩)
    (cM1 : PySem.W.codeIn K cdM1 "Hierarchy.has_class" = true) (kM1 : PySem.W.keepIn K (.ref h1) = true)
    (m2 : PySem.W.findIn K (.ref C) "names" = some (some (.ref h2))) (i2 : PySem.W.isFn K (.ref h2) = true)
    {ocM2 kVM2 dcM2 pmM2 cdM2 ctM2 : Value} {odM2 anM2 : Option Addr} {slM2 : Array (Option Value)}
    (lM2 : K.lookup h2 = some ⟨ocM2, odM2, .func (PySem.W.fnOf "names" "Hierarchy.names" (defArgs m_names) (defBody m_names) (defScope m_names)
      .none kVM2 dcM2 pmM2 anM2 cdM2 ctM2), slM2⟩)
    (cM2 : PySem.W.codeIn K cdM2 "Hierarchy.names" = true) (kM2 : PySem.W.keepIn K (.ref h2) = true)
    (m3 : PySem.W.findIn K (.ref C) "require_class" = some (some (.ref h3))) (i3 : PySem.W.isFn K (.ref h3) = true)
    {ocM3 kVM3 dcM3 pmM3 cdM3 ctM3 : Value} {odM3 anM3 : Option Addr} {slM3 : Array (Option Value)}
    (lM3 : K.lookup h3 = some ⟨ocM3, odM3, .func (PySem.W.fnOf "require_class" "Hierarchy.require_class" (defArgs m_require_class) (defBody m_require_class) (defScope m_require_class)
      .none kVM3 dcM3 pmM3 anM3 cdM3 ctM3), slM3⟩)
    (cM3 : PySem.W.codeIn K cdM3 "Hierarchy.require_class" = true) (kM3 : PySem.W.keepIn K (.ref h3) = true)
    (m4 : PySem.W.findIn K (.ref C) "descendants" = some (some (.ref h4))) (i4 : PySem.W.isFn K (.ref h4) = true)
    {ocM4 kVM4 dcM4 pmM4 cdM4 ctM4 : Value} {odM4 anM4 : Option Addr} {slM4 : Array (Option Value)}
    (lM4 : K.lookup h4 = some ⟨ocM4, odM4, .func (PySem.W.fnOf "descendants" "Hierarchy.descendants" (defArgs m_descendants) (defBody m_descendants) (defScope m_descendants)
      .none kVM4 dcM4 pmM4 anM4 cdM4 ctM4), slM4⟩)
    (cM4 : PySem.W.codeIn K cdM4 "Hierarchy.descendants" = true) (kM4 : PySem.W.keepIn K (.ref h4) = true)
    (lT : K.lookup TD = some ⟨ocT, odT, .seq #[.ref T0] nT, slT⟩)
    (lU : K.lookup T0 = some ⟨.type "tuple", odU, .seq #[] nU, slU⟩)
    (pg : PySem.W.plainGet K C Str.empty = true)
    (hd : PySem.W.hasDictIn K C = true)
    (po : PySem.W.plainOver K C = true)
    (sa : PySem.W.findIn K (.ref C) "__setattr__" = some (some (.builtin "object.__setattr__")))
    (mk : PySem.W.makesIn K C = true)
    (kc : PySem.W.keepIn K (.ref C) = true)
    (nR : PySem.W.findIn K (.ref C) "rows" = some none)
    (nP : PySem.W.findIn K (.ref C) "places" = some none)
    (nA : PySem.W.findIn K (.ref C) "above" = some none)
    (rd : PySem.W.readsIn K C (.type "type") = true)
    (ga : PySem.W.specialIn K (.ref C) "__getattribute__" = some (some (.builtin "type.__getattribute__")))
    (cl : PySem.W.findCls K (.ref C) (.type "type") "LIMIT" = some (.val (.int 20 uL)))
    (e0 : PySem.W.nsIn K mainGlobals "LETTERS" = some (some (.str "abcdefghijklmnopqrstuvwxyz" u0)))
    (e1 : PySem.W.nsIn K mainGlobals "LONGEST_NAME" = some (some (.int 8 u1)))
    (e2 : PySem.W.nsIn K mainGlobals "MAX_PARAMETERS" = some (some (.int 3 u2)))
    (z0 : PySem.W.nsIn K mainGlobals "len" = some none)
    (z1 : PySem.W.nsIn K mainGlobals "max" = some none)
    (z2 : PySem.W.nsIn K mainGlobals "min" = some none)
    (z3 : PySem.W.nsIn K mainGlobals "abs" = some none)
    (z4 : PySem.W.nsIn K mainGlobals "divmod" = some none)
    (z5 : PySem.W.nsIn K mainGlobals "range" = some none)
    (z6 : PySem.W.nsIn K mainGlobals "str" = some none)
    (z7 : PySem.W.nsIn K mainGlobals "isinstance" = some none)
    (z8 : PySem.W.nsIn K mainGlobals "all" = some none)
    (z9 : PySem.W.nsIn K mainGlobals "repr" = some none)
    (z10 : PySem.W.nsIn K mainGlobals "tuple" = some none)
    (z11 : PySem.W.nsIn K mainGlobals "list" = some none)
    (z12 : PySem.W.nsIn K mainGlobals "set" = some none)
    (z13 : PySem.W.nsIn K mainGlobals "int" = some none)
    (z14 : PySem.W.nsIn K mainGlobals "bool" = some none)
    (z15 : PySem.W.nsIn K mainGlobals "enumerate" = some none)
    (z16 : PySem.W.nsIn K mainGlobals "dict" = some none)
    (z17 : PySem.W.nsIn K mainGlobals "zip" = some none)
    : ∃ fd : FuncData, (∀ (s : Shared) (v : Value), BindsTo s fd ⟨[v], []⟩ [("_law_script", v)]) ∧
      ∀ base : Heap, K.In base → base.Ns mainGlobals mg → sysModules < base.objs.size →
        FnG l.prog w K mg base CX0 6 fa fd ["_law_script"] (spLaw K) := by
  have e := hfa.symm.trans (PySem.W.mg_of X G a21)
  cases e
  have F_is_parameter_count := fun_mk (st := sIsCount) l0 c0 k0
  have b_is_parameter_count := F_is_parameter_count.binds (ps := ["value"]) fun _ _ _ _ _ _ us hl =>
    match us, hl with | [_], _ => rfl
  have g_is_parameter_count := PySem.W.mg_of X G a0
  have F_is_point := fun_mk (st := sIsPoint) l1 c1 k1
  have b_is_point := F_is_point.binds (ps := ["hierarchy", "value"]) fun _ _ _ _ _ _ us hl =>
    match us, hl with | [_, _], _ => rfl
  have g_is_point := PySem.W.mg_of X G a1
  have F_require_point := fun_mk (st := sReq) l2 c2 k2
  have b_require_point := F_require_point.binds (ps := ["hierarchy", "value"]) fun _ _ _ _ _ _ us hl =>
    match us, hl with | [_, _], _ => rfl
  have g_require_point := PySem.W.mg_of X G a2
  have F_combinations := fun_mk (st := sComb) l3 c3 k3
  have b_combinations := F_combinations.binds (ps := ["choices"]) fun _ _ _ _ _ _ us hl =>
    match us, hl with | [_], _ => rfl
  have g_combinations := PySem.W.mg_of X G a3
  have F_all_points := fun_mk (st := sAllPts) l4 c4 k4
  have b_all_points := F_all_points.binds (ps := ["hierarchy", "count"]) fun _ _ _ _ _ _ us hl =>
    match us, hl with | [_, _], _ => rfl
  have g_all_points := PySem.W.mg_of X G a4
  have F_points_at_or_below := fun_mk (st := sPtsBelow) l5 c5 k5
  have b_points_at_or_below := F_points_at_or_below.binds (ps := ["hierarchy", "point"]) fun _ _ _ _ _ _ us hl =>
    match us, hl with | [_, _], _ => rfl
  have g_points_at_or_below := PySem.W.mg_of X G a5
  have F_is_name := fun_mk (st := sIsName) l6 c6 k6
  have b_is_name := F_is_name.binds (ps := ["value"]) fun _ _ _ _ _ _ us hl =>
    match us, hl with | [_], _ => rfl
  have g_is_name := PySem.W.mg_of X G a6
  have F_are_superclasses := fun_mk (st := sAre) l7 c7 k7
  have b_are_superclasses := F_are_superclasses.binds (ps := ["value", "known"]) fun _ _ _ _ _ _ us hl =>
    match us, hl with | [_, _], _ => rfl
  have g_are_superclasses := PySem.W.mg_of X G a7
  have F_row_problem := fun_mk (st := sProb) l8 c8 k8
  have b_row_problem := F_row_problem.binds (ps := ["row", "known"]) fun _ _ _ _ _ _ us hl =>
    match us, hl with | [_, _], _ => rfl
  have g_row_problem := PySem.W.mg_of X G a8
  have F_ancestors_of := fun_mk (st := sAnc) l9 c9 k9
  have b_ancestors_of := F_ancestors_of.binds (ps := ["name", "superclasses", "above"]) fun _ _ _ _ _ _ us hl =>
    match us, hl with | [_, _, _], _ => rfl
  have g_ancestors_of := PySem.W.mg_of X G a9
  have F__law_pot := fun_mk (st := sPot) l10 c10 k10
  have b__law_pot := F__law_pot.binds (ps := ["_law_script", "_law_k"]) fun _ _ _ _ _ _ us hl =>
    match us, hl with | [_, _], _ => rfl
  have g__law_pot := PySem.W.mg_of X G a10
  have F__law_draw := fun_mk (st := sDraw) l11 c11 k11
  have b__law_draw := F__law_draw.binds (ps := ["_law_pot_here", "_law_many"]) fun _ _ _ _ _ _ us hl =>
    match us, hl with | [_, _], _ => rfl
  have g__law_draw := PySem.W.mg_of X G a11
  have F__law_mixed := fun_mk (st := sMixed) l12 c12 k12
  have b__law_mixed := F__law_mixed.binds (ps := ["_law_pot_here", "_law_some"]) fun _ _ _ _ _ _ us hl =>
    match us, hl with | [_, _], _ => rfl
  have g__law_mixed := PySem.W.mg_of X G a12
  have F__law_name := fun_mk (st := sName) l13 c13 k13
  have b__law_name := F__law_name.binds (ps := ["_law_pot_here"]) fun _ _ _ _ _ _ us hl =>
    match us, hl with | [_], _ => rfl
  have g__law_name := PySem.W.mg_of X G a13
  have F__law_names := fun_mk (st := sNames) l14 c14 k14
  have b__law_names := F__law_names.binds (ps := ["_law_pot_here", "_law_many"]) fun _ _ _ _ _ _ us hl =>
    match us, hl with | [_, _], _ => rfl
  have g__law_names := PySem.W.mg_of X G a14
  have F__law_kinds := fun_mk (st := sKinds) l15 c15 k15
  have b__law_kinds := F__law_kinds.binds (ps := ["_law_pot_here", "_law_most"]) fun _ _ _ _ _ _ us hl =>
    match us, hl with | [_, _], _ => rfl
  have g__law_kinds := PySem.W.mg_of X G a15
  have F__law_above := fun_mk (st := sAbove) l16 c16 k16
  have b__law_above := F__law_above.binds (ps := ["_law_rows", "_law_label"]) fun _ _ _ _ _ _ us hl =>
    match us, hl with | [_, _], _ => rfl
  have g__law_above := PySem.W.mg_of X G a16
  have F__law_ups := fun_mk (st := sUps) l17 c17 k17
  have b__law_ups := F__law_ups.binds (ps := ["_law_rows"]) fun _ _ _ _ _ _ us hl =>
    match us, hl with | [_], _ => rfl
  have g__law_ups := PySem.W.mg_of X G a17
  have F__law_is_under := fun_mk (st := sUnder) l18 c18 k18
  have b__law_is_under := F__law_is_under.binds (ps := ["_law_ups_here", "_law_inner", "_law_outer"]) fun _ _ _ _ _ _ us hl =>
    match us, hl with | [_, _, _], _ => rfl
  have g__law_is_under := PySem.W.mg_of X G a18
  have F__law_all_points := fun_mk (st := sLAll) l19 c19 k19
  have b__law_all_points := F__law_all_points.binds (ps := ["_law_rows", "_law_many"]) fun _ _ _ _ _ _ us hl =>
    match us, hl with | [_, _], _ => rfl
  have g__law_all_points := PySem.W.mg_of X G a19
  have F__law_count_right := fun_mk (st := sCR) l20 c20 k20
  have b__law_count_right := F__law_count_right.binds (ps := ["_law_pot_here", "_law_world", "_law_rows", "_law_many"]) fun _ _ _ _ _ _ us hl =>
    match us, hl with | [_, _, _, _], _ => rfl
  have g__law_count_right := PySem.W.mg_of X G a20
  have F_law := fun_mk (st := sLaw) l21 c21 k21
  have b_law := F_law.binds (ps := ["_law_script"]) fun _ _ _ _ _ _ us hl =>
    match us, hl with | [_], _ => rfl
  have g_law := PySem.W.mg_of X G a21
  have q_LETTERS := PySem.W.mg_of X G e0
  have q_LONGEST_NAME := PySem.W.mg_of X G e1
  have q_MAX_PARAMETERS := PySem.W.mg_of X G e2
  have n_len := PySem.W.mg_none_of X G z0
  have n_max := PySem.W.mg_none_of X G z1
  have n_min := PySem.W.mg_none_of X G z2
  have n_abs := PySem.W.mg_none_of X G z3
  have n_divmod := PySem.W.mg_none_of X G z4
  have n_range := PySem.W.mg_none_of X G z5
  have n_str := PySem.W.mg_none_of X G z6
  have n_isinstance := PySem.W.mg_none_of X G z7
  have n_all := PySem.W.mg_none_of X G z8
  have n_repr := PySem.W.mg_none_of X G z9
  have n_tuple := PySem.W.mg_none_of X G z10
  have n_list := PySem.W.mg_none_of X G z11
  have n_set := PySem.W.mg_none_of X G z12
  have n_int := PySem.W.mg_none_of X G z13
  have n_bool := PySem.W.mg_none_of X G z14
  have n_enumerate := PySem.W.mg_none_of X G z15
  have n_dict := PySem.W.mg_none_of X G z16
  have n_zip := PySem.W.mg_none_of X G z17
  have T : HTxt K mg C := ⟨⟨pg, hd, po, sa⟩, nR, nP, nA, PySem.W.mg_of X G aC, _, _, ⟨rd, ga⟩, ⟨cl, ⟨_, rfl⟩⟩⟩
  obtain ⟨fdI, F_init⟩ : ∃ fdI, FunD K "__init__" "Hierarchy.__init__" (defArgs m_init) (defBody m_init) (defScope m_init) [.ref T0] [] h0 fdI :=
    ⟨_, ⟨_, _, .ref TD, _, _, _, _, _, _, _, rfl, lM0, cM0, .inr ⟨by simp, TD, _, [.ref T0], _, rfl, lT, rfl, .cons rfl .nil⟩, .inl rfl⟩, kM0⟩
  have b_init1 : Binds K fdI ["self", "classes"] [] := by
    obtain ⟨ds, r, b⟩ := F_init.binds1 (ps := ["self", "classes"]) 2 1 (by simp) rfl fun _ _ _ _ _ _ _ us its hu hi =>
      match us, its, hu, hi with | [_, _], [_], _, _ => ⟨_, rfl, rfl⟩
    cases r
    exact b
  obtain ⟨ds0, v_init0, b_init0⟩ := F_init.binds1 (ps := ["self", "classes"]) 1 0 (by simp) rfl fun _ _ _ _ _ _ _ us its hu hi =>
    match us, its, hu, hi with | [_], [_], _, _ => ⟨_, rfl, rfl⟩
  have M : Mk K C h0 := ⟨mk, m0, i0, kc⟩
  have T0e : SqT K (fun _ => none) T0 [] := .inr ⟨_, #[], _, lU, rfl, rfl, Nat.zero_le _, .nil⟩
  have F_has_class := fun_mk (st := m_has_class) lM1 cM1 kM1
  have b_has_class := F_has_class.binds (ps := ["self", "value"]) fun _ _ _ _ _ _ us hl =>
    match us, hl with | [_, _], _ => rfl
  have mt_has_class : Meth K C "has_class" h1 := ⟨m1, i1, kM1⟩
  have F_names := fun_mk (st := m_names) lM2 cM2 kM2
  have b_names := F_names.binds (ps := ["self"]) fun _ _ _ _ _ _ us hl =>
    match us, hl with | [_], _ => rfl
  have mt_names : Meth K C "names" h2 := ⟨m2, i2, kM2⟩
  have F_require_class := fun_mk (st := m_require_class) lM3 cM3 kM3
  have b_require_class := F_require_class.binds (ps := ["self", "value"]) fun _ _ _ _ _ _ us hl =>
    match us, hl with | [_, _], _ => rfl
  have mt_require_class : Meth K C "require_class" h3 := ⟨m3, i3, kM3⟩
  have F_descendants := fun_mk (st := m_descendants) lM4 cM4 kM4
  have b_descendants := F_descendants.binds (ps := ["self", "name"]) fun _ _ _ _ _ _ us hl =>
    match us, hl with | [_, _], _ => rfl
  have mt_descendants : Meth K C "descendants" h4 := ⟨m4, i4, kM4⟩
  refine ⟨PySem.W.fnOf "law" "law" (defArgs sLaw) (defBody sLaw) (defScope sLaw)
      .none kV21 dc21 pm21 an21 cd21 ct21, fun s v => ?_, fun base _ _ low => ?_⟩
  · exact .of_eq rfl
  · have GD0 : FnOk l.prog w K mg base CX0 1 _ _ ["_law_pot_here", "_law_many"] spDraw := ok_draw F__law_draw n_divmod
    have GN0 := ok_name (P := l.prog) (w := w) (base := base) (k := 0) F__law_name F__law_draw b__law_draw g__law_draw n_divmod n_range
    have GNs := ok_names (P := l.prog) (w := w) (base := base) (k := 0) F__law_names F__law_name b__law_name g__law_name GN0 n_range
    have GM := ok_mixed (P := l.prog) (w := w) (base := base) (k := 0) F__law_mixed F__law_draw b__law_draw g__law_draw n_divmod n_range n_len n_list
    have GK := ok_kinds (P := l.prog) (w := w) (base := base) (k := 0) F__law_kinds F__law_draw b__law_draw g__law_draw F__law_names b__law_names g__law_names F__law_mixed b__law_mixed g__law_mixed GD0 GNs GM n_tuple
    have GA := ok_are (P := l.prog) (w := w) (base := base) (k := 0) F_are_superclasses n_isinstance n_tuple n_str n_all n_len n_set
    have GIN := ok_isname (P := l.prog) (w := w) (base := base) (k := 0) F_is_name n_isinstance n_str n_len n_all q_LETTERS q_LONGEST_NAME
    have GPr := ok_prob (P := l.prog) (w := w) (base := base) (k := 0) F_row_problem F_is_name b_is_name g_is_name F_are_superclasses b_are_superclasses g_are_superclasses GIN GA n_isinstance n_tuple n_len
    have GAn := ok_anc (P := l.prog) (w := w) (mg := mg) (base := base) (k := 0) F_ancestors_of
    have GI := ok_init (P := l.prog) (w := w) (base := base) (k := 0) F_init T F_row_problem b_row_problem g_row_problem F_ancestors_of b_ancestors_of g_ancestors_of GPr GAn n_isinstance n_tuple n_list n_enumerate n_len
    have GH := ok_has (P := l.prog) (w := w) (base := base) (k := 0) F_has_class T n_isinstance n_str
    have GC := ok_count (P := l.prog) (w := w) (base := base) (k := 0) F_is_parameter_count n_isinstance n_int n_bool q_MAX_PARAMETERS
    have GPt := ok_point (P := l.prog) (w := w) (base := base) (k := 0) F_is_point T F_is_parameter_count b_is_parameter_count g_is_parameter_count mt_has_class b_has_class GC GH n_isinstance n_tuple n_len n_all
    have GRq := ok_req (P := l.prog) (w := w) (base := base) (k := 1) F_require_point F_is_point b_is_point g_is_point GPt
    have GCb := ok_comb (P := l.prog) (w := w) (mg := mg) (base := base) (k := 0) F_combinations
    have GNm := ok_nmL (P := l.prog) (w := w) (base := base) (k := 0) F_names T n_list
    have GRc := ok_rc (P := l.prog) (w := w) (base := base) (k := 0) F_require_class T mt_has_class b_has_class GH
    have GDe := ok_desc (P := l.prog) (w := w) (base := base) (k := 0) F_descendants T mt_require_class b_require_class GRc mt_names b_names GNm
    have GAP := ok_allP (P := l.prog) (w := w) (base := base) (k := 0) F_all_points T F_is_parameter_count b_is_parameter_count g_is_parameter_count F_combinations b_combinations g_combinations mt_names b_names GNm GC GCb
    have GPB := ok_pB (P := l.prog) (w := w) (base := base) (k := 0) F_points_at_or_below T F_require_point b_require_point g_require_point F_combinations b_combinations g_combinations mt_descendants b_descendants GDe GRq GCb
    have GAb := ok_above (P := l.prog) (w := w) (mg := mg) (base := base) (k := 0) F__law_above
    have GU := ok_ups (P := l.prog) (w := w) (base := base) (k := 0) F__law_ups F__law_above b__law_above g__law_above GAb n_dict
    have GUn := ok_under (P := l.prog) (w := w) (base := base) (k := 0) F__law_is_under n_all n_zip
    have GLA := ok_lall (P := l.prog) (w := w) (base := base) (k := 0) F__law_all_points n_range
    have GR := ok_cr (P := l.prog) (w := w) (base := base) (k := 0) F__law_count_right F__law_ups b__law_ups g__law_ups GU F__law_all_points b__law_all_points g__law_all_points GLA F_all_points b_all_points g_all_points GAP F__law_is_under b__law_is_under g__law_is_under GUn F_points_at_or_below b_points_at_or_below g_points_at_or_below GPB F__law_draw b__law_draw g__law_draw GD0 n_repr n_range n_len
    have GPo := ok_pot (P := l.prog) (w := w) (base := base) (k := 0) F__law_pot n_len n_max n_abs
    exact ok_law F_law T M T0e b_init0 v_init0 b_init1 F__law_pot b__law_pot g__law_pot F__law_kinds b__law_kinds g__law_kinds F_all_points b_all_points g_all_points GAP F__law_count_right b__law_count_right g__law_count_right GR GI GPo GK n_range n_max n_min n_len n_all
end Lw
open PySem PySem.W PyProof.Rows
set_option maxHeartbeats 0 in
theorem PySem.Challenge.cw_fewestmethods_k26_all_points_holds : PySem.Challenge.rw_fewestmethods_k26_all_points.Holds := by
  w_on; o_law; k_head; (case hw => w_witness2)
  k_fill
  refine Kv.walk_ofG (l := PySem.Challenge.rw_fewestmethods_k26_all_points) (n := 63) (k := 6) (x := "_law_script") (sp := fun w => Lw.spLaw _)
    rfl (by decide) rfl ⟨rfl, by decide, by decide⟩ (fun w h Y => PySem.W.kIn_of Y) ?F
    (fun _ _ a ns hl _ _ hS => ⟨a, ns, rfl, hS, hl, fun _ => rfl⟩)
  case F =>
    intro w mg fa h KX G hmg
    refine' Lw.all_mk KX G hmg
      ?a0 ?l0 ?c0 ?k0 ?a1 ?l1 ?c1 ?k1 ?a2 ?l2 ?c2 ?k2
      ?a3 ?l3 ?c3 ?k3 ?a4 ?l4 ?c4 ?k4 ?a5 ?l5 ?c5 ?k5
      ?a6 ?l6 ?c6 ?k6 ?a7 ?l7 ?c7 ?k7 ?a8 ?l8 ?c8 ?k8
      ?a9 ?l9 ?c9 ?k9 ?a10 ?l10 ?c10 ?k10 ?a11 ?l11 ?c11 ?k11
      ?a12 ?l12 ?c12 ?k12 ?a13 ?l13 ?c13 ?k13 ?a14 ?l14 ?c14 ?k14
      ?a15 ?l15 ?c15 ?k15 ?a16 ?l16 ?c16 ?k16 ?a17 ?l17 ?c17 ?k17
      ?a18 ?l18 ?c18 ?k18 ?a19 ?l19 ?c19 ?k19 ?a20 ?l20 ?c20 ?k20
      ?a21 ?l21 ?c21 ?k21 ?aC ?m0 ?i0 ?lM0 ?cM0 ?kM0 ?m1 ?i1
      ?lM1 ?cM1 ?kM1 ?m2 ?i2 ?lM2 ?cM2 ?kM2 ?m3 ?i3 ?lM3 ?cM3
      ?kM3 ?m4 ?i4 ?lM4 ?cM4 ?kM4 ?lT ?lU ?pg ?hd ?po ?sa
      ?mk ?kc ?nR ?nP ?nA ?rd ?ga ?cl ?e0 ?e1 ?e2 ?z0
      ?z1 ?z2 ?z3 ?z4 ?z5 ?z6 ?z7 ?z8 ?z9 ?z10 ?z11 ?z12
      ?z13 ?z14 ?z15 ?z16 ?z17
    (case a0 => k_is); (case l0 => k_is); (case c0 => k_is); (case k0 => k_is)
    (case a1 => k_is); (case l1 => k_is); (case c1 => k_is); (case k1 => k_is)
    (case a2 => k_is); (case l2 => k_is); (case c2 => k_is); (case k2 => k_is)
    (case a3 => k_is); (case l3 => k_is); (case c3 => k_is); (case k3 => k_is)
    (case a4 => k_is); (case l4 => k_is); (case c4 => k_is); (case k4 => k_is)
    (case a5 => k_is); (case l5 => k_is); (case c5 => k_is); (case k5 => k_is)
    (case a6 => k_is); (case l6 => k_is); (case c6 => k_is); (case k6 => k_is)
    (case a7 => k_is); (case l7 => k_is); (case c7 => k_is); (case k7 => k_is)
    (case a8 => k_is); (case l8 => k_is); (case c8 => k_is); (case k8 => k_is)
    (case a9 => k_is); (case l9 => k_is); (case c9 => k_is); (case k9 => k_is)
    (case a10 => k_is); (case l10 => k_is); (case c10 => k_is); (case k10 => k_is)
    (case a11 => k_is); (case l11 => k_is); (case c11 => k_is); (case k11 => k_is)
    (case a12 => k_is); (case l12 => k_is); (case c12 => k_is); (case k12 => k_is)
    (case a13 => k_is); (case l13 => k_is); (case c13 => k_is); (case k13 => k_is)
    (case a14 => k_is); (case l14 => k_is); (case c14 => k_is); (case k14 => k_is)
    (case a15 => k_is); (case l15 => k_is); (case c15 => k_is); (case k15 => k_is)
    (case a16 => k_is); (case l16 => k_is); (case c16 => k_is); (case k16 => k_is)
    (case a17 => k_is); (case l17 => k_is); (case c17 => k_is); (case k17 => k_is)
    (case a18 => k_is); (case l18 => k_is); (case c18 => k_is); (case k18 => k_is)
    (case a19 => k_is); (case l19 => k_is); (case c19 => k_is); (case k19 => k_is)
    (case a20 => k_is); (case l20 => k_is); (case c20 => k_is); (case k20 => k_is)
    (case a21 => k_is); (case l21 => k_is); (case c21 => k_is); (case k21 => k_is)
    (case aC => k_is); (case m0 => k_is); (case i0 => k_is); (case lM0 => k_is)
    (case cM0 => k_is); (case kM0 => k_is); (case m1 => k_is); (case i1 => k_is)
    (case lM1 => k_is); (case cM1 => k_is); (case kM1 => k_is); (case m2 => k_is)
    (case i2 => k_is); (case lM2 => k_is); (case cM2 => k_is); (case kM2 => k_is)
    (case m3 => k_is); (case i3 => k_is); (case lM3 => k_is); (case cM3 => k_is)
    (case kM3 => k_is); (case m4 => k_is); (case i4 => k_is); (case lM4 => k_is)
    (case cM4 => k_is); (case kM4 => k_is); (case lT => k_is); (case lU => k_is)
    (case pg => k_is); (case hd => k_is); (case po => k_is); (case sa => k_is)
    (case mk => k_is); (case kc => k_is); (case nR => k_is); (case nP => k_is)
    (case nA => k_is); (case rd => k_is); (case ga => k_is); (case cl => k_is)
    (case e0 => k_is); (case e1 => k_is); (case e2 => k_is); (case z0 => k_is)
    (case z1 => k_is); (case z2 => k_is); (case z3 => k_is); (case z4 => k_is)
    (case z5 => k_is); (case z6 => k_is); (case z7 => k_is); (case z8 => k_is)
    (case z9 => k_is); (case z10 => k_is); (case z11 => k_is); (case z12 => k_is)
    (case z13 => k_is); (case z14 => k_is); (case z15 => k_is); (case z16 => k_is)
    (case z17 => k_is)
