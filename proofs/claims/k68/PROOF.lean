import PyProof.Rows.All
import Wide.All
import OpenK.AllK
import Wide.FinOn
import HandS.ForMost
import HandS.ForExc
import HandS.Conv
import HandS.TupAny
import HandS.IsInst
import HandS.Strs
import HandS.SetFor
import HandS.SortInts
import HandS.Zip
import HandS.Flow
import HandS.More
import HandS.OwnEq
import KE.GoesEnum
import HandS.ForDict
import HandS.Words
import HandS.NamedTupSort
import HandS.SortKw
import KE.SortKeyHeap
import KE.SortData
import HandS.ExcOwn
import HandS.WordsExc
import HandS.ExcIs
import HandS.TupMul
import HandS.DictComp
import HandS.Style
import HandS.WideBits
import HandS.ClsMeth
import HandS.OwnIter
import HandS.IterVal
import HandS.Small
import HandS.Deep
import PyProof.P3In
import PyProof.TupleOfSeq
import HandS.ExcValue
import HandS.Spec
import KE.KEqDict
import PySem.Challenge.RW_crewlists_k68_groups_common_to_two_famil
set_option Elab.async false
set_option linter.all false
set_option maxRecDepth 100000
set_option maxHeartbeats 4000000
/-! Defs that are called where no repr is under way (the guards are known to be none), and repr itself. -/
namespace DW
open PySem PySem.Spec PyProof.Rows L2

structure FnG (P : Program) (w : World) (K : PySem.W.Frag) (mg : Str → Option Value) (base : Heap) (CX : CXT) (k : Nat) (f : Addr) (fd : FuncData) (ps : List Str) (sp : Sp) : Prop where
  ln : ∀ vs H Q E, sp vs H Q E → vs.length = ps.length
  go : ∀ (A : Around) (fr : List Env) (s : Shared) (H : Hp) (as : Args) (us : List Value) (vs : List V) (Q : VK) (E : XK),
    A.guards = some [] → Room k A → Env0 P w K mg base A fr s H → BindsTo s fd as (ps.zip us) → Vals vs us → sp vs H Q E →
    codeAny (model P w) A (.call (.ref f) as) (CR CX fr P w H s Q E) s
section
variable {P : Program} {w : World} {K : PySem.W.Frag} {mg : Str → Option Value} {base : Heap} {CX : CXT} {k : Nat} {f : Addr} {fd : FuncData} {ps : List Str} {sp : Sp}
theorem FnG.of (F : FnOk P w K mg base CX k f fd ps sp) : FnG P w K mg base CX k f fd ps sp :=
  ⟨F.len, fun A fr s H as us vs Q E _ r e b v h => F.run A fr s H as us vs Q E r e b v h⟩
theorem FnG.mono {j : Nat} (F : FnG P w K mg base CX j f fd ps sp) (h : j ≤ k) : FnG P w K mg base CX k f fd ps sp :=
  ⟨F.ln, fun A fr s H as us vs Q E g r e b v q => F.go A fr s H as us vs Q E g (r.mono h) e b v q⟩
end
section
variable {X : Cx} {CX : CXT} {k : Nat} {f C : Addr} {fd : FuncData} {ps : List Str} {sp : Sp} {dvs : List V} {ds : List Value} {E : XK} {x m : Str} {p pos apos : Pos} {e o : Expr} {es : List Expr} {ta : TE} {t : TA}
theorem goG {pins : List (Addr × Obj)} {σ : L2.St} {H : Hp} {s : Shared} {Q : VK} {us : List Value} {vs : List V}
    (F : FnG X.prog X.w X.K X.mg X.base CX k f fd ps sp) (gd : X.A.guards = some []) (hr : Room k X.A) (hb : Binds X.K fd ps ds) (hd : Vals dvs ds)
    (hx : Passes CX X E) (I : Inv X pins σ H s) (r : Vals vs us) (h : sp (vs ++ dvs) H Q E) :
    wpAny (model X.prog X.w) X.A (call (.ref f) us) (EP X pins σ Q) X.xe s := by
  have both : Vals (vs ++ dvs) (us ++ ds) := Vals.append r hd
  have many : (us ++ ds).length = ps.length := (Vals.length both).symm.trans (F.ln _ _ _ _ h)
  have run := F.go X.A X.stack s H ⟨us, []⟩ (us ++ ds) (vs ++ dvs) Q E gd hr (Inv.env0 I) (hb s us (Inv.kIn I) many) both h
  refine wpAny_call (codeAny_mono run ?_)
  intro res s2 hres
  match res, hres with
  | .error ex, hres => exact hx pins σ H s ex s2 I hres
  | .ok (.ret u), hres => exact Inv.after I hres
  | .ok .next, hres => exact hres.elim
  | .ok .brk, hres => exact hres.elim
  | .ok .cont, hres => exact hres.elim
theorem pe_callG (F : FnG X.prog X.w X.K X.mg X.base CX k f fd ps sp) (gd : X.A.guards = some []) (hr : Room k X.A)
    (hg : Gl X x) (hm : X.mg x = some (.ref f)) (hk : PySem.W.keepIn X.K (.ref f) = true)
    (hb : Binds X.K fd ps ds) (hd : Vals dvs ds) (hx : Passes CX X E) (ha : PA X (e :: es) t)
    (hdb : (x == ("__debug__" : Str)) = false := by decide) (he : starEach (e :: es) X.env = (false, eval e X.env) :: starEach es X.env := by rfl)
    (hpl : (backTo pos (starEach es X.env)).any (·.1) = false := by rfl) : PE X (.Call (.Name x p) (e :: es) [] pos) (tCall sp dvs E t) := by
  constructor
  intro pins s σ H Q I h
  apply wpAny_Call_Name_kw
  apply ld_glob I hg hm _ hdb
  apply PySem.W.callWith_K (h₀ := X.base) I.ok.mod.kin hk _ he hpl
  refine thn (ha.run pos pins s σ H _ I h) ?_
  rintro us s1 ⟨vs, H1, I1, r, q⟩
  exact ⟨I1.kIn, goG F gd hr hb hd hx I1 r q⟩
theorem pe_methG {pl : Sem Bool} (he : PE X o ta) (c : Cls X.K C) (hm : Meth X.K C m f) (F : FnG X.prog X.w X.K X.mg X.base CX k f fd ps sp) (gd : X.A.guards = some [])
    (hr : Room k X.A) (hb : Binds X.K fd ps ds) (hd : Vals dvs ds) (hx : Passes CX X E) (ha : PA X (e :: es) t)
    (hst : starEach (e :: es) X.env = (false, eval e X.env) :: starEach es X.env := by rfl)
    (hpl : (backTo pos (starEach es X.env)).any (·.1) = false := by rfl)
    (ht : eval (.Call (.Attribute o m apos) (e :: es) [] pos) X.env = ((eval o X.env) >>= fun ov => (standAt apos.atName) >>= fun _ =>
      (holding [ov] (getMethod ov m pl)) >>= fun p => callWith pos p.1 p.2 (backTo pos (starEach (e :: es) X.env)) (backToKw pos (keywordEach [] X.env))) := by rfl) :
    PE X (.Call (.Attribute o m apos) (e :: es) [] pos) (tMeth C m sp dvs E ta t) := by
  constructor
  intro pins s σ H Q I h
  apply PySem.W.methodCall_KW (pl := pl) _ ht
  refine thn (he.run pins s σ H _ I h) ?_
  rintro u s1 ⟨x, H1, I1, rx, a, dx, fs, rfl, ea, l, q⟩
  cases rx
  apply getmeth_ok I1 ea c hm l
  apply PySem.W.callWith_K (first := [.ref a]) (h₀ := X.base) I.ok.mod.kin hm.kp _ hst hpl
  refine thn (ha.run pos pins s1 σ H1 _ I1 q) ?_
  rintro us s2 ⟨vs, H2, I2, r, q2⟩
  exact ⟨I2.kIn, goG (us := .ref a :: us) (vs := .ref a :: vs) F gd hr hb hd hx I2 (.cons rfl r) q2⟩
end
/-- a def by its body, where the guards are known -/
theorem Fun.okGX {CX : CXT} {P : Program} {w : World} {K : PySem.W.Frag} {mg : Str → Option Value} {base : Heap} {x qual : Str} {st : Stmt} {f : Addr} {fd : FuncData} {N ps : List Str} {k : Nat} {sp : Sp}
    (F : Fun K x qual st f fd) (S : FnScope N ps (defScope st)) (ln : ∀ vs H Q E, sp vs H Q E → vs.length = ps.length)
    (body : ∀ (cdv : Value) (A : Around) (fr : List Env) (s : Shared) (H : Hp) (vs : List V) (Q : VK) (E : XK), A.guards = some [] →
      Room k (A.deeper (envOfC qual (defScope st) s.heap.objs.size f cdv)) → sp vs H Q E →
      ∃ t, PSs (cxOf CX P w K mg base N qual (defScope st) f cdv A fr s H E) (defBody st) t ∧ t { nx := fun _ H' => Q .non H', rt := Q } (start N vs) H) :
    FnG P w K mg base CX (k + 1) f fd ps sp := by
  obtain ⟨oc, od, kV, doc, pm, an, cdv, ct, osl, rfl, lk, hcd⟩ := F.ex
  refine ⟨ln, ?_⟩
  intro A fr s H as us vs Q E gd hr e0 hb rv hsp
  have KX : K.In s.heap := e0.mod.kin.keeps (fun b o e => (e0.bs b o e).1)
  have many := ln _ _ _ _ hsp
  have kinds : ∀ y ∈ ps.zip us, (defScope st).names.lookup y.1 = some .local ∨
      ((defScope st).names.lookup y.1 = some .cell ∧ ((cellsFrom (s.heap.objs.size + 1) (defScope st).names []).lookup y.1).isSome = true) := by
    rintro ⟨n, v⟩ hy
    cases S.par n (List.of_mem_zip hy).1 with
    | inl q => exact Or.inl q
    | inr q => exact Or.inr ⟨q, PySem.W.cellsFrom_some _ _ _ (Or.inl q)⟩
  apply codeAny_call_function hr.depth (KX _ _ lk) rfl S.co S.gen rfl (PySem.W.codeRec_of KX hcd) (hb _ _ _ _ _)
  refine wpAny_newFunctionEnv_cells S.kind kinds ?_
  intro env he s1 ic
  subst he
  refine ⟨(e0.mod.nolimit.keeps fun b o e => (e0.bs b o e).1).keeps ic.toInCall.keep, codeAny_func ?_⟩
  obtain ⟨t, ht, hq⟩ := body cdv A fr s H vs Q E gd (Room.deeper hr _) hsp
  have I0 := inv_start (CX := CX) (E := E) S hr.hd e0 many rv ic
  refine wpAny_mono (ht.run [] s1 _ H _ I0 hq) ?_ (fun e s2 hs => hs)
  intro fl s2 hs
  match fl, hs with
  | .ret u, ⟨v, σ', H', J, ru, q⟩ => exact ⟨v, H', J.os, J.bare, J.base, J.hok, ru, q⟩
  | .next, ⟨σ', H', J, q⟩ => exact ⟨.non, H', J.os, J.bare, J.base, J.hok, rfl, q⟩
  | .brk, ⟨_, _, _, q⟩ => exact q.elim
  | .cont, ⟨_, _, _, q⟩ => exact q.elim
theorem Fun.okG {P : Program} {w : World} {K : PySem.W.Frag} {mg : Str → Option Value} {base : Heap} {x qual : Str} {st : Stmt} {f : Addr} {fd : FuncData} {N ps : List Str} {k : Nat} {sp : Sp}
    (F : Fun K x qual st f fd) (S : FnScope N ps (defScope st)) (ln : ∀ vs H Q E, sp vs H Q E → vs.length = ps.length)
    (body : ∀ (cdv : Value) (A : Around) (fr : List Env) (s : Shared) (H : Hp) (vs : List V) (Q : VK) (E : XK), A.guards = some [] →
      Room k (A.deeper (envOfC qual (defScope st) s.heap.objs.size f cdv)) → sp vs H Q E →
      ∃ t, PSs (cxOf CX0 P w K mg base N qual (defScope st) f cdv A fr s H E).nox (defBody st) t ∧ t { nx := fun _ H' => Q .non H', rt := Q } (start N vs) H) :
    FnG P w K mg base CX0 (k + 1) f fd ps sp :=
  Fun.okGX F S ln fun cdv A fr s H vs Q E gd hr h => let ⟨t, ht, q⟩ := body cdv A fr s H vs Q E gd hr h; ⟨t, ht.nox, q⟩
/-- the law's call -/
theorem callG {P : Program} {w : World} {K : PySem.W.Frag} {mg mb : Str → Option Value} {k : Nat} {fa a : Addr} {fd : FuncData} {x : Str} {sp : Sp} {s₁ : Shared} {vs : List Value} {ns : List Int}
    (KX : K.In s₁.heap) (hns : s₁.heap.Ns mainGlobals mg) (hb : s₁.heap.Ns builtinsNs mb) (hbb : ∀ x : Str, x ≠ "__name__" → mb x = bootBuiltins x) (hlim : s₁.heap.NoLimit) (hg : s₁.gens = #[])
    (ha : s₁.heap.get? a = some { cls := .type "list", data := .seq vs.toArray }) (hi : IntsAre vs ns) (hl : ns.length ≤ sizeLine) (hr : Room k callerA)
    (F : ∀ base : Heap, K.In base → base.Ns mainGlobals mg → FnG P w K mg base CX0 k fa fd [x] sp) (hbind : ∀ (s : Shared) (u : Value), BindsTo s fd ⟨[u], []⟩ [(x, u)])
    (hsp : ∀ H : Hp, Only H → SqL K H a (ns.map V.int) → sp [.ref a] H (fun v _ => v = .bl true) fun _ _ _ => False) :
    codeAny (model P w) callerA (.call (.ref fa) ⟨[.ref a], []⟩) (fun r s' => r = .ok (.ret (.bool true)) ∧ OldK s₁.heap s'.heap ∧ s'.os = s₁.os ∧ AllBare s'.gens) s₁ := by
  have gen : ∀ H : Hp, Only H → SqL K H a (ns.map V.int) → HOk P w H s₁.heap → (∀ b, H b ≠ none → b = a ∧ K.lookup a = none) →
      codeAny (model P w) callerA (.call (.ref fa) ⟨[.ref a], []⟩) (fun r s' => r = .ok (.ret (.bool true)) ∧ OldK s₁.heap s'.heap ∧ s'.os = s₁.os ∧ AllBare s'.gens) s₁ := by
    intro H hO hS hok only
    have untr : ∀ {b : Addr}, b ≠ a → H b = none := fun {b} n => by
      cases z : H b with
      | none => rfl
      | some o => exact absurd (only b (by rw [z]; nofun)).1 n
    have dictNs : ∀ {b : Addr} {m : Str → Option Value}, s₁.heap.Ns b m → (hidT s₁.heap H).Ns b m := by
      rintro b m ⟨o, es, ep, e, d, r⟩
      refine ⟨o, es, ep, hidT_get e (untr ?_), d, r⟩
      rintro rfl
      rw [ha] at e
      cases e
      cases d
    have kin : K.In (hidT s₁.heap H) := fun b o e => hidT_get (KX b o e) (by
      cases z : H b with
      | none => rfl
      | some u =>
        obtain ⟨rfl, no⟩ := only b (by rw [z]; nofun)
        rw [no] at e; cases e)
    have e0 : Env0 P w K mg (hidT s₁.heap H) callerA [] s₁ H :=
      { frames := rfl, mod := { kin := kin, glob := dictNs hns, blt := ⟨mb, dictNs hb, hbb⟩, nolimit := hlim.elim fun mc h => ⟨mc, dictNs h.1, h.2⟩ },
        bs := fun b o e => of_hidT e, bsz := Nat.le_of_eq (hidT_size _ _), funs := trivial, frf := fun b hb => by simp [frs] at hb, hok := hok, bare := .of_eq hg }
    have run := (F _ kin (dictNs hns)).go callerA [] s₁ H ⟨[.ref a], []⟩ [.ref a] [.ref a] _ _ rfl hr e0 (hbind s₁ (.ref a)) (.cons rfl .nil) (hsp H hO hS)
    refine codeAny_mono run ?_
    intro r s2 h
    match r, h with
    | .ok (.ret u), ⟨v, H', os, bare, un, hok2, ru, q⟩ =>
      cases (show v = .bl true from q)
      cases (show u = Value.bool true from ru)
      refine ⟨rfl, OldK.of_keep ?_, os, bare⟩
      intro b o e
      rcases hO b with z | ⟨ob, xs, z⟩
      · exact un.keep b o e z (by simp [frs]) (by simp)
      · have p1 := (hok b _ z).1
        have p2 := (hok2 b _ (un.frzs b ob _ z)).1
        rw [e] at p1; cases p1; exact p2
    | .ok .next, h => exact h.elim
    | .ok .brk, h => exact h.elim
    | .ok .cont, h => exact h.elim
    | .error ex, h => exact h.elim
  have rv := vals_ints hi
  by_cases hk : ∃ o, K.lookup a = some o
  · obtain ⟨o, hk⟩ := hk
    have e := KX a o hk
    rw [ha] at e
    cases e
    refine gen (fun _ => none) (fun _ => Or.inl rfl) (Or.inr ⟨_, vs.toArray, _, hk, rfl, rfl, rfl, ?_, ?_⟩) (fun b u z => nomatch z) (fun b z => absurd rfl z)
    · rw [List.size_toArray, hi.length]; exact hl
    · simpa using rv
  · have hk' : K.lookup a = none := by
      cases z : K.lookup a with
      | none => rfl
      | some o => exact absurd ⟨o, z⟩ hk
    let ob : Obj := { cls := .type "list", data := .seq vs.toArray }
    refine gen (fun b => if b = a then some (.frz ob (.lst (ns.map V.int))) else none) ?_ (Or.inl (Or.inr ⟨ob, if_pos rfl⟩)) ?_ ?_
    · intro b
      by_cases e : b = a
      · exact Or.inr ⟨ob, _, if_pos e⟩
      · exact Or.inl (if_neg e)
    · intro b u z
      by_cases e : b = a
      · subst e
        have z2 : some (HO.frz ob (.lst (ns.map V.int))) = some u := (if_pos rfl).symm.trans z
        cases z2
        exact ⟨ha, by rw [List.length_map]; exact hl, vs, _, rv, ha⟩
      · have z2 : none = some u := (if_neg e).symm.trans z
        cases z2
    · intro b z
      by_cases e : b = a
      · exact ⟨e, hk'⟩
      · exact absurd (if_neg e) z
theorem walkG {l : PySem.W.OpenLaw} {n k : Nat} {q : Program} {loose : List Str} {XP : (Str → Option Value) → Heap → Prop} {YP : World → Heap → Prop} {d : DefRec} {K : Params → PySem.W.Frag} {sp : World → Sp} {x : Str}
    (hn : l.most = some n) (hn2 : n ≤ sizeLine) (hdf : d.params.defaults = []) (hr : Room k callerA) (hY : ∀ (w : World) (h : Heap), YP w h → (K w.params).In h)
    (F : ∀ (w : World) (mg : Str → Option Value) (fa : Addr) (h : Heap), (K w.params).In h → h.Ns mainGlobals mg → mg d.name = some (.ref fa) →
      ∃ fd : FuncData, (∀ (s : Shared) (u : Value), BindsTo s fd ⟨[u], []⟩ [(x, u)]) ∧
        ∀ base : Heap, (K w.params).In base → base.Ns mainGlobals mg → FnG l.prog w (K w.params) mg base CX0 k fa fd [x] (sp w))
    (hsp : ∀ (w : World) (H : Hp) (a : Addr) (ns : List Int), ns.length ≤ n → Only H → SqL (K w.params) H a (ns.map V.int) → sp w [.ref a] H (fun v _ => v = .bl true) fun _ _ _ => False) :
    PySem.W.WalkO q loose XP YP l.row.toRowW d [] (fun f vs => PySem.call f vs) := by
  apply Att.attach_call hn hdf
  intro w s₀ s₁ mg mb fa o pm cd doc a vs ns G Y ho hd hcd hmg hobj hints hlen hg
  have KX := hY w _ Y
  obtain ⟨fd, hb, hF⟩ := F w mg fa _ KX G.T.g hmg
  exact callG KX G.T.g G.T.b G.T.builtins G.T.nolimit hg hobj hints (Nat.le_trans hlen hn2) hr hF hb fun H hO hS => hsp w H a ns hlen hO hS
end DW
/-! DW: weakest preconditions over plain data, over the hand layer. -/
namespace DW
open PySem PySem.Spec PyProof.Rows L2

/-! ### data -/
inductive D where
  | non | bl (b : Bool) | int (i : Int) | str (x : Str)
  | tup (xs : List D) | lst (xs : List D)
  | dK (kvs : List (Key × D)) | dT (kvs : List (List Key × D))
  | obj (C : Addr) (fs : List (Str × D))
  | rf (a : Addr) | ty (n : String)

mutual
inductive DR (Av : Addr → Prop) (H : Hp) : V → D → Prop
  | non : DR Av H .non .non
  | bl (b : Bool) : DR Av H (.bl b) (.bl b)
  | int (i : Int) : DR Av H (.int i) (.int i)
  | str (x : Str) : DR Av H (.str x) (.str x)
  | ty (n : String) : DR Av H (.ty n) (.ty n)
  | rf (a : Addr) : DR Av H (.ref a) (.rf a)
  | tup {a : Addr} {vs : List V} {ds : List D} : ¬ Av a → H a = some (.tup vs) → DRs Av H vs ds → DR Av H (.ref a) (.tup ds)
  | lst {a : Addr} {vs : List V} {ds : List D} : ¬ Av a → H a = some (.lst vs) → DRs Av H vs ds → DR Av H (.ref a) (.lst ds)
  | dK {a : Addr} {kvs : List (Key × V)} {ds : List (Key × D)} : ¬ Av a → H a = some (.dK kvs) → DRk Av H kvs ds → DR Av H (.ref a) (.dK ds)
  | dT {a : Addr} {kvs : List (List Key × V)} {ds : List (List Key × D)} : ¬ Av a → H a = some (.dT kvs) → DRt Av H kvs ds → DR Av H (.ref a) (.dT ds)
  | obj {a C dx : Addr} {fv : List (Str × V)} {fs : List (Str × D)} : ¬ Av a → H a = some (.ins C dx fv) → DRf Av H fv fs → DR Av H (.ref a) (.obj C fs)
inductive DRs (Av : Addr → Prop) (H : Hp) : List V → List D → Prop
  | nil : DRs Av H [] []
  | cons {v : V} {vs : List V} {d : D} {ds : List D} : DR Av H v d → DRs Av H vs ds → DRs Av H (v :: vs) (d :: ds)
inductive DRk (Av : Addr → Prop) (H : Hp) : List (Key × V) → List (Key × D) → Prop
  | nil : DRk Av H [] []
  | cons {k : Key} {v : V} {d : D} {vs : List (Key × V)} {ds : List (Key × D)} : DR Av H v d → DRk Av H vs ds → DRk Av H ((k, v) :: vs) ((k, d) :: ds)
inductive DRt (Av : Addr → Prop) (H : Hp) : List (List Key × V) → List (List Key × D) → Prop
  | nil : DRt Av H [] []
  | cons {k : List Key} {v : V} {d : D} {vs : List (List Key × V)} {ds : List (List Key × D)} : DR Av H v d → DRt Av H vs ds → DRt Av H ((k, v) :: vs) ((k, d) :: ds)
inductive DRf (Av : Addr → Prop) (H : Hp) : List (Str × V) → List (Str × D) → Prop
  | nil : DRf Av H [] []
  | cons {f : Str} {v : V} {d : D} {vs : List (Str × V)} {ds : List (Str × D)} : DR Av H v d → DRf Av H vs ds → DRf Av H ((f, v) :: vs) ((f, d) :: ds)
end

/-- what carries a relation from one heap (and what is avoided there) to another -/
structure Mv (Av Av' : Addr → Prop) (H H' : Hp) : Prop where
  go : ∀ a o, ¬ Av a → H a = some o → ¬ Av' a ∧ H' a = some o

mutual
theorem DR.mv {Av Av' : Addr → Prop} {H H' : Hp} (m : Mv Av Av' H H') : ∀ {v : V} {d : D}, DR Av H v d → DR Av' H' v d
  | _, _, .non => .non
  | _, _, .bl b => .bl b
  | _, _, .int i => .int i
  | _, _, .str x => .str x
  | _, _, .ty n => .ty n
  | _, _, .rf a => .rf a
  | _, _, .tup n h r => .tup (m.go _ _ n h).1 (m.go _ _ n h).2 (DRs.mv m r)
  | _, _, .lst n h r => .lst (m.go _ _ n h).1 (m.go _ _ n h).2 (DRs.mv m r)
  | _, _, .dK n h r => .dK (m.go _ _ n h).1 (m.go _ _ n h).2 (DRk.mv m r)
  | _, _, .dT n h r => .dT (m.go _ _ n h).1 (m.go _ _ n h).2 (DRt.mv m r)
  | _, _, .obj n h r => .obj (m.go _ _ n h).1 (m.go _ _ n h).2 (DRf.mv m r)
theorem DRs.mv {Av Av' : Addr → Prop} {H H' : Hp} (m : Mv Av Av' H H') : ∀ {v : List V} {d : List D}, DRs Av H v d → DRs Av' H' v d
  | _, _, .nil => .nil
  | _, _, .cons h r => .cons (DR.mv m h) (DRs.mv m r)
theorem DRk.mv {Av Av' : Addr → Prop} {H H' : Hp} (m : Mv Av Av' H H') : ∀ {v : List (Key × V)} {d : List (Key × D)}, DRk Av H v d → DRk Av' H' v d
  | _, _, .nil => .nil
  | _, _, .cons h r => .cons (DR.mv m h) (DRk.mv m r)
theorem DRt.mv {Av Av' : Addr → Prop} {H H' : Hp} (m : Mv Av Av' H H') : ∀ {v : List (List Key × V)} {d : List (List Key × D)}, DRt Av H v d → DRt Av' H' v d
  | _, _, .nil => .nil
  | _, _, .cons h r => .cons (DR.mv m h) (DRt.mv m r)
theorem DRf.mv {Av Av' : Addr → Prop} {H H' : Hp} (m : Mv Av Av' H H') : ∀ {v : List (Str × V)} {d : List (Str × D)}, DRf Av H v d → DRf Av' H' v d
  | _, _, .nil => .nil
  | _, _, .cons h r => .cons (DR.mv m h) (DRf.mv m r)
end
theorem DRs.length {Av : Addr → Prop} {H : Hp} : ∀ {vs : List V} {ds : List D}, DRs Av H vs ds → vs.length = ds.length
  | _, _, .nil => rfl
  | _, _, .cons _ r => by simp [r.length]
theorem DRs.get {Av : Addr → Prop} {H : Hp} : ∀ {vs : List V} {ds : List D} {i : Nat} {d : D}, DRs Av H vs ds → ds[i]? = some d → ∃ v, vs[i]? = some v ∧ DR Av H v d
  | _, _, i, d, .nil, e => by simp at e
  | _, _, 0, d, .cons h r, e => by simp at e; subst e; exact ⟨_, by simp, h⟩
  | _, _, i + 1, d, .cons h r, e => by
    obtain ⟨v, e1, h1⟩ := r.get (i := i) (d := d) (by simpa using e)
    exact ⟨v, by simpa using e1, h1⟩
theorem DRs.app {Av : Addr → Prop} {H : Hp} : ∀ {vs ws : List V} {ds es : List D}, DRs Av H vs ds → DRs Av H ws es → DRs Av H (vs ++ ws) (ds ++ es)
  | _, _, _, _, .nil, s => s
  | _, _, _, _, .cons h r, s => .cons h (r.app s)
theorem DRs.take {Av : Addr → Prop} {H : Hp} : ∀ {vs : List V} {ds : List D} (n : Nat), DRs Av H vs ds → DRs Av H (vs.take n) (ds.take n)
  | _, _, 0, _ => .nil
  | _, _, _ + 1, .nil => .nil
  | _, _, n + 1, .cons h r => .cons h (r.take n)
theorem DRs.drop {Av : Addr → Prop} {H : Hp} : ∀ {vs : List V} {ds : List D} (n : Nat), DRs Av H vs ds → DRs Av H (vs.drop n) (ds.drop n)
  | _, _, 0, r => r
  | _, _, _ + 1, .nil => .nil
  | _, _, n + 1, .cons _ r => r.drop n
theorem DRs.set {Av : Addr → Prop} {H : Hp} {v : V} {d : D} (h : DR Av H v d) : ∀ {vs : List V} {ds : List D} (n : Nat), DRs Av H vs ds → DRs Av H (vs.set n v) (ds.set n d)
  | _, _, _, .nil => .nil
  | _, _, 0, .cons _ r => .cons h r
  | _, _, n + 1, .cons q r => .cons q (r.set h n)
theorem DRs.rev {Av : Addr → Prop} {H : Hp} : ∀ {vs : List V} {ds : List D}, DRs Av H vs ds → DRs Av H vs.reverse ds.reverse
  | _, _, .nil => .nil
  | _, _, .cons h r => by rw [List.reverse_cons, List.reverse_cons]; exact r.rev.app (.cons h .nil)
theorem DRs.rep {Av : Addr → Prop} {H : Hp} {vs : List V} {ds : List D} (h : DRs Av H vs ds) : ∀ k : Nat, DRs Av H (List.replicate k vs).flatten (List.replicate k ds).flatten
  | 0 => .nil
  | k + 1 => by rw [List.replicate_succ, List.replicate_succ, List.flatten_cons, List.flatten_cons]; exact h.app (h.rep k)
theorem DRs.erase {Av : Addr → Prop} {H : Hp} : ∀ {vs : List V} {ds : List D} (n : Nat), DRs Av H vs ds → DRs Av H (vs.eraseIdx n) (ds.eraseIdx n)
  | _, _, _, .nil => .nil
  | _, _, 0, .cons _ r => r
  | _, _, n + 1, .cons h r => .cons h (r.erase n)

/-! ### what may change -/
/-- there is something, and it is no tuple -/
def Nt (o : Option HO) : Prop := o ≠ none ∧ ∀ vs, o ≠ some (.tup vs)
theorem Nt.ne {o : Option HO} (h : Nt o) : o ≠ none := h.1
instance {o : Option HO} : CoeFun (Nt o) (fun _ => o = none → False) := ⟨Nt.ne⟩
structure Gd where
  W : Addr → Prop
  T : Addr → Prop
  G : Hp → Prop
  wt : ∀ a, W a → T a
  st : ∀ H H' : Hp, (∀ a, T a → H' a = H a) → G H → G H'
  tr : ∀ H, G H → ∀ a, T a → Nt (H a)
def Kp (g : Gd) (H H' : Hp) : Prop := (∀ a o, H a = some o → ¬ g.W a → H' a = some o) ∧ g.G H'
theorem Kp.refl {g : Gd} {H : Hp} (h : g.G H) : Kp g H H := ⟨fun _ _ e _ => e, h⟩
theorem Kp.trans {g : Gd} {H H1 H2 : Hp} (a : Kp g H H1) (b : Kp g H1 H2) : Kp g H H2 := ⟨fun x o e n => b.1 x o (a.1 x o e n) n, b.2⟩
theorem Kp.free {g : Gd} {H H1 : Hp} (a : Kp g H H1) (hg : g.G H) {p : Addr} (h : H1 p = none) : H p = none := by
  cases e : H p with
  | none => rfl
  | some o =>
    by_cases hw : g.W p
    · exact absurd h (g.tr H1 a.2 p (g.wt p hw)).ne
    · rw [a.1 p o e hw] at h; cases h
theorem Kp.new {g : Gd} {H : Hp} {p : Addr} {o : HO} (hg : g.G H) (h : H p = none) : Kp g H (upd H p o) := by
  have hp : ∀ a, g.T a → a ≠ p := fun a ha e => g.tr H hg a ha (by rw [e]; exact h)
  refine ⟨fun a u e _ => ?_, g.st H _ (fun a ha => upd_ne (hp a ha)) hg⟩
  rw [upd_ne (ne_of_none e h)]; exact e

/-- of an activation: what it must leave alone -/
structure FrOk (g : Gd) (Av : Addr → Prop) (H0 : Hp) : Prop where
  ta : ∀ a, g.T a → Av a
  tr : ∀ a, Av a → Nt (H0 a)
theorem Mv.kp {g : Gd} {Av : Addr → Prop} {H H' : Hp} (ta : ∀ a, g.T a → Av a) (k : Kp g H H') : Mv Av Av H H' := ⟨fun a o n e => ⟨n, k.1 a o e fun w => n (ta a (g.wt a w))⟩⟩
/-- the result of an expression; fr: a list that nobody else has -/
structure Res (Av : Addr → Prop) (H : Hp) (v : V) (fr : Bool) (d : D) (H' : Hp) : Prop where
  dr : DR Av H' v d
  new : fr = true → ∃ p vs ds, v = .ref p ∧ d = .lst ds ∧ H p = none ∧ H' p = some (.lst vs) ∧ DRs (fun a => Av a ∨ a = p) H' vs ds
theorem Res.old {Av : Addr → Prop} {H H' : Hp} {v : V} {d : D} (h : DR Av H' v d) : Res Av H v false d H' := ⟨h, fun e => nomatch e⟩

/-! ### the slots -/
/-- what a slot may own: a list or a dict -/
inductive Ct where
  | lst (ds : List D) | dK (kvs : List (Key × D)) | dT (kvs : List (List Key × D))
def Ct.d : Ct → D | .lst ds => .lst ds | .dK k => .dK k | .dT k => .dT k
def CR (Av : Addr → Prop) (H : Hp) : Ct → HO → Prop
  | .lst ds, u => ∃ vs, u = .lst vs ∧ DRs Av H vs ds
  | .dK ds, u => ∃ vs, u = .dK vs ∧ DRk Av H vs ds
  | .dT ds, u => ∃ vs, u = .dT vs ∧ DRt Av H vs ds
theorem CR.mv {Av Av' : Addr → Prop} {H H' : Hp} (m : Mv Av Av' H H') {c : Ct} {u : HO} (h : CR Av H c u) : CR Av' H' c u := by
  cases c with
  | lst ds => obtain ⟨vs, e, r⟩ := h; exact ⟨vs, e, r.mv m⟩
  | dK ds => obtain ⟨vs, e, r⟩ := h; exact ⟨vs, e, DRk.mv m r⟩
  | dT ds => obtain ⟨vs, e, r⟩ := h; exact ⟨vs, e, DRt.mv m r⟩
theorem CR.dr {Av Av' : Addr → Prop} {H : Hp} {c : Ct} {u : HO} {p : Addr} (h : CR Av' H c u) (n : ¬ Av p) (e : H p = some u) (s : ∀ a, Av a → Av' a) : DR Av H (.ref p) c.d := by
  have m : Mv Av' Av H H := ⟨fun a o n e => ⟨fun z => n (s a z), e⟩⟩
  cases c with
  | lst ds => obtain ⟨vs, rfl, r⟩ := h; exact .lst n e (r.mv m)
  | dK ds => obtain ⟨vs, rfl, r⟩ := h; exact .dK n e (DRk.mv m r)
  | dT ds => obtain ⟨vs, rfl, r⟩ := h; exact .dT n e (DRt.mv m r)
/-- lists and dicts -/
def Mt : HO → Prop | .lst _ => True | .dK _ => True | .dT _ => True | _ => False
theorem CR.mt {Av : Addr → Prop} {H : Hp} {c : Ct} {u : HO} (h : CR Av H c u) : Mt u := by
  cases c with
  | lst ds => obtain ⟨vs, rfl, r⟩ := h; trivial
  | dK ds => obtain ⟨vs, rfl, r⟩ := h; trivial
  | dT ds => obtain ⟨vs, rfl, r⟩ := h; trivial
theorem Mt.nt {u : HO} (h : Mt u) : Nt (some u) := ⟨(fun e => nomatch e), fun vs e => by cases e; exact h⟩
theorem Mt.ntup {u : HO} (h : Mt u) : ∀ vs, u ≠ .tup vs := fun vs e => by cases e; exact h
/-- of an object that is shown -/
theorem nt_of {o : Option HO} {u : HO} (e : o = some u) (h : ∀ vs, u ≠ .tup vs) : Nt o := ⟨fun z => by rw [e] at z; (cases z), fun vs z => by rw [e] at z; (cases z); exact h vs rfl⟩
@[simp] def D.isC : D → Bool | .lst _ => true | .dK _ => true | .dT _ => true | _ => false
theorem Ct.isC (c : Ct) : c.d.isC = true := by cases c <;> rfl
inductive Sl where
  | un | val (d : D) | ow (c : Ct)
abbrev Sl.own (ds : List D) : Sl := .ow (.lst ds)
abbrev Sx := List Sl
/-- what values leave alone: the callers' Av, what is being made (B), the lists and dicts of the slots' own -/
def Avo (Av B : Addr → Prop) (o : Nat → Addr) (st : Sx) (a : Addr) : Prop := (Av a ∨ B a) ∨ ∃ (i : Nat) (c : Ct), st[i]? = some (Sl.ow c) ∧ o i = a
structure Rel (g : Gd) (Av B : Addr → Prop) (gh : V → D → Prop) (H0 : Hp) (o : Nat → Addr) (σ : L2.St) (st : Sx) (H : Hp) : Prop where
  len : σ.length = st.length
  kp : Kp g H0 H
  val : ∀ (i : Nat) (d : D), st[i]? = some (.val d) → ∃ v, σ[i]? = some (some v) ∧ DR (Avo Av B o st) H v d
  ow : ∀ (i : Nat) (c : Ct), st[i]? = some (.ow c) → σ[i]? = some (some (.ref (o i))) ∧ H0 (o i) = none ∧ ¬ B (o i) ∧ ∃ u, H (o i) = some u ∧ CR (Avo Av B o st) H c u
  inj : ∀ (i j : Nat) (c e : Ct), st[i]? = some (.ow c) → st[j]? = some (.ow e) → o i = o j → i = j
  bt : ∀ a, B a → Nt (H a) ∧ ¬ g.T a
  gho : ∀ v d, gh v d → DR (Avo Av B o st) H v d
section
variable {g : Gd} {Av B : Addr → Prop} {gh : V → D → Prop} {H0 H H1 : Hp} {o : Nat → Addr} {σ : L2.St} {st : Sx}
theorem Rel.own (R : Rel g Av B gh H0 o σ st H) (i : Nat) (ds : List D) (h : st[i]? = some (.own ds)) : σ[i]? = some (some (.ref (o i))) ∧ H0 (o i) = none ∧ ¬ B (o i) ∧ ∃ vs, H (o i) = some (.lst vs) ∧ DRs (Avo Av B o st) H vs ds := by
  obtain ⟨a, b, c, u, e, vs, rfl, r⟩ := R.ow i _ h
  exact ⟨a, b, c, vs, e, r⟩
theorem Kp.tracked (F : g.G H1) (k : Kp g H H1) {a : Addr} (h : Nt (H a)) : Nt (H1 a) := by
  cases z : H a with
  | none => exact absurd z h.1
  | some u =>
    by_cases w : g.W a
    · exact g.tr H1 F a (g.wt a w)
    · rw [k.1 a u z w, ← z]; exact h
theorem Rel.tracked (F : FrOk g Av H0) (R : Rel g Av B gh H0 o σ st H) {a : Addr} (h : Avo Av B o st a) : Nt (H a) := by
  rcases h with (h | h) | ⟨i, c, h1, h2⟩
  · exact Kp.tracked R.kp.2 R.kp (F.tr a h)
  · exact (R.bt a h).1
  · obtain ⟨_, _, _, vs, e, r⟩ := R.ow i c h1
    rw [h2] at e; rw [e]
    exact r.mt.nt
theorem Avo.ta (F : FrOk g Av H0) {a : Addr} (h : g.T a) : Avo Av B o st a := .inl (.inl (F.ta a h))
theorem Rel.ownT (F : FrOk g Av H0) (R : Rel g Av B gh H0 o σ st H) {i : Nat} {c : Ct} (h : st[i]? = some (.ow c)) : ¬ g.T (o i) := fun z => by
  exact F.tr _ (F.ta _ z) (R.ow i c h).2.1
theorem Mv.avo (F : FrOk g Av H0) (k : Kp g H H1) : Mv (Avo Av B o st) (Avo Av B o st) H H1 := Mv.kp (fun a h => Avo.ta F h) k
theorem Rel.mono (F : FrOk g Av H0) (R : Rel g Av B gh H0 o σ st H) (k : Kp g H H1) : Rel g Av B gh H0 o σ st H1 := by
  have m : Mv (Avo Av B o st) (Avo Av B o st) H H1 := Mv.avo F k
  refine ⟨R.len, R.kp.trans k, fun i d e => ?_, fun i ds e => ?_, R.inj, fun a h => ⟨Kp.tracked k.2 k (R.bt a h).1, (R.bt a h).2⟩, fun v d h => (R.gho v d h).mv m⟩
  · obtain ⟨v, e1, r⟩ := R.val i d e
    exact ⟨v, e1, r.mv m⟩
  · obtain ⟨e1, e2, nb, vs, e3, r⟩ := R.ow i ds e
    exact ⟨e1, e2, nb, vs, k.1 _ _ e3 fun w => R.ownT F e (g.wt _ w), r.mv m⟩
end

/-! ### the judgements -/
abbrev WP := Sx → (Bool → D → Prop) → Prop
/-- a value to be read: its items are apart from what the frame owns -/
def Rdv (Avs : Addr → Prop) (Av : Addr → Prop) (H : Hp) (v : V) (d : D) : Prop := DR Avs H v d ∨ ∃ p u c, v = .ref p ∧ d = Ct.d c ∧ ¬ Av p ∧ H p = some u ∧ CR Avs H c u
/-- an expression: its value is apart from what the frame owns -/
def WE (g : Gd) (X : Cx) (e : Expr) (w : WP) : Prop := ∃ t, PE X e t ∧ ∀ Av B gh H0 o σ st H Q Qd, g.G H0 → FrOk g Av H0 → Rel g Av B gh H0 o σ st H → w st Qd →
  (∀ fr d v H', Kp g H H' → Res (Avo Av B o st) H v fr d H' → Qd fr d → Q v H') → t σ H Q
def WR (g : Gd) (X : Cx) (e : Expr) (w : WP) : Prop := ∃ t, PE X e t ∧ ∀ Av B gh H0 o σ st H Q Qd, g.G H0 → FrOk g Av H0 → Rel g Av B gh H0 o σ st H → w st Qd →
  (∀ fr d v H', Kp g H H' → Rdv (Avo Av B o st) (fun a => Av a ∨ B a) H' v d → Qd fr d → Q v H') → t σ H Q
theorem WE.rd {g : Gd} {X : Cx} {e : Expr} {w : WP} (h : WE g X e w) : WR g X e w := by
  obtain ⟨t, p, q⟩ := h
  exact ⟨t, p, fun Av B gh H0 o σ st H Q Qd hg F R hw hk => q Av B gh H0 o σ st H Q Qd hg F R hw fun fr d v H' k r hd => hk fr d v H' k (.inl r.dr) hd⟩
theorem Rdv.mono {g : Gd} {Avs Av : Addr → Prop} {H H1 : Hp} {v : V} {d : D} (t1 : ∀ a, g.T a → Avs a) (t2 : ∀ a, g.T a → Av a) (k : Kp g H H1) (h : Rdv Avs Av H v d) : Rdv Avs Av H1 v d := by
  rcases h with h | ⟨p, vs, ds, e1, e2, e3, e4, r⟩
  · exact .inl (h.mv (Mv.kp t1 k))
  · exact .inr ⟨p, vs, ds, e1, e2, e3, k.1 _ _ e4 fun w => e3 (t2 _ (g.wt _ w)), r.mv (Mv.kp t1 k)⟩
/-- a list that is read -/
theorem Rdv.lst {Av Av' : Addr → Prop} {H : Hp} {v : V} {ds : List D} (h : Rdv Av Av' H v (.lst ds)) : ∃ p vs, v = .ref p ∧ H p = some (.lst vs) ∧ DRs Av H vs ds := by
  rcases h with h | ⟨p, u, c, e1, e2, _, e3, r⟩
  · cases h with
    | lst n e r => exact ⟨_, _, rfl, e, r⟩
  · cases c with
    | lst ds' => cases e2; obtain ⟨vs, rfl, r⟩ := r; exact ⟨p, vs, e1, e3, r⟩
    | dK _ => cases e2
    | dT _ => cases e2
/-- a dict that is read -/
theorem Rdv.dT {Av Av' : Addr → Prop} {H : Hp} {v : V} {ds : List (List Key × D)} (h : Rdv Av Av' H v (.dT ds)) : ∃ p vs, v = .ref p ∧ H p = some (.dT vs) ∧ DRt Av H vs ds := by
  rcases h with h | ⟨p, u, c, e1, e2, _, e3, r⟩
  · cases h with
    | dT n e r => exact ⟨_, _, rfl, e, r⟩
  · cases c with
    | dT ds' => cases e2; obtain ⟨vs, rfl, r⟩ := r; exact ⟨p, vs, e1, e3, r⟩
    | dK _ => cases e2
    | lst _ => cases e2
theorem Rdv.dK {Av Av' : Addr → Prop} {H : Hp} {v : V} {ds : List (Key × D)} (h : Rdv Av Av' H v (.dK ds)) : ∃ p vs, v = .ref p ∧ H p = some (.dK vs) ∧ DRk Av H vs ds := by
  rcases h with h | ⟨p, u, c, e1, e2, _, e3, r⟩
  · cases h with
    | dK n e r => exact ⟨_, _, rfl, e, r⟩
  · cases c with
    | dK ds' => cases e2; obtain ⟨vs, rfl, r⟩ := r; exact ⟨p, vs, e1, e3, r⟩
    | dT _ => cases e2
    | lst _ => cases e2
theorem Rdv.dr {Av Av' : Addr → Prop} {H : Hp} {v : V} {d : D} (h : Rdv Av Av' H v d) (n : d.isC = false) : DR Av H v d := by
  rcases h with h | ⟨p, u, c, e1, e2, _⟩
  · exact h
  · rw [e2, c.isC] at n; cases n
theorem Rdv.tup {Av Av' : Addr → Prop} {H : Hp} {v : V} {ds : List D} (h : Rdv Av Av' H v (.tup ds)) : ∃ p vs, v = .ref p ∧ H p = some (.tup vs) ∧ DRs Av H vs ds ∧ DR Av H v (.tup ds) := by
  have h := h.dr (by simp)
  cases h with
  | tup n e r => exact ⟨_, _, rfl, e, r, .tup n e r⟩
theorem Rdv.int {Av Av' : Addr → Prop} {H : Hp} {v : V} {i : Int} (h : Rdv Av Av' H v (.int i)) : v = .int i := by
  cases h.dr (by simp); rfl
theorem Rdv.bl {Av Av' : Addr → Prop} {H : Hp} {v : V} {i : Bool} (h : Rdv Av Av' H v (.bl i)) : v = .bl i := by
  cases h.dr (by simp); rfl
theorem Rdv.str {Av Av' : Addr → Prop} {H : Hp} {v : V} {i : Str} (h : Rdv Av Av' H v (.str i)) : v = .str i := by
  cases h.dr (by simp); rfl
theorem Rdv.non {Av Av' : Addr → Prop} {H : Hp} {v : V} (h : Rdv Av Av' H v .non) : v = .non := by
  cases h.dr (by simp); rfl

/-! ### names and constants -/
def rdS (st : Sx) (i : Nat) (Q : Bool → D → Prop) : Prop := match st[i]? with | some (.val d) => Q false d | _ => False
def rdO (st : Sx) (i : Nat) (Q : Bool → D → Prop) : Prop := match st[i]? with | some (.val d) => Q false d | some (.ow c) => Q false c.d | _ => False
section
variable {g : Gd} {X : Cx} {x : Str} {pos : Pos}
theorem we_v (i : Nat) (h : PE X (.Name x pos) (tVar i)) : WE g X (.Name x pos) (fun st Q => rdS st i Q) := by
  refine ⟨_, h, fun Av B gh H0 o σ st H Q Qd hg F R hw hk => ?_⟩
  simp only [rdS] at hw
  split at hw
  · rename_i d e
    obtain ⟨v, e1, r⟩ := R.val i d e
    exact ⟨v, e1, hk false d v H (Kp.refl R.kp.2) (.old r) hw⟩
  · exact hw.elim
theorem wr_v (i : Nat) (h : PE X (.Name x pos) (tVar i)) : WR g X (.Name x pos) (fun st Q => rdO st i Q) := by
  refine ⟨_, h, fun Av B gh H0 o σ st H Q Qd hg F R hw hk => ?_⟩
  simp only [rdO] at hw
  split at hw
  · rename_i d e
    obtain ⟨v, e1, r⟩ := R.val i d e
    exact ⟨v, e1, hk false d v H (Kp.refl R.kp.2) (.inl r) hw⟩
  · rename_i ds e
    obtain ⟨e1, e2, nb, vs, e3, r⟩ := R.ow i ds e
    refine ⟨_, e1, hk false _ _ H (Kp.refl R.kp.2) (.inr ⟨_, vs, ds, rfl, rfl, fun z => z.elim (fun z => F.tr _ z e2) nb, e3, r⟩) hw⟩
  · exact hw.elim
theorem we_c {e : Expr} {v : V} {d : D} (h : PE X e (tC v)) (r : ∀ Av H, DR Av H v d) : WE g X e (fun _ Q => Q false d) :=
  ⟨_, h, fun Av B gh H0 o σ st H Q Qd hg F R hw hk => hk false d v H (Kp.refl R.kp.2) (.old (r _ _)) hw⟩
theorem we_int {i : Int} {j : Nat} : WE g X (.Constant (.int i) j pos) (fun _ Q => Q false (.int i)) := we_c pe_int fun _ _ => .int i
theorem we_bl {b : Bool} {j : Nat} : WE g X (.Constant (.bool b) j pos) (fun _ Q => Q false (.bl b)) := we_c pe_bl fun _ _ => .bl b
theorem we_str {b : Str} {j : Nat} : WE g X (.Constant (.str b) j pos) (fun _ Q => Q false (.str b)) := we_c pe_str fun _ _ => .str b
theorem we_non {j : Nat} : WE g X (.Constant .none j pos) (fun _ Q => Q false .non) := we_c pe_non fun _ _ => .non
/-- an own class or def, a module's constant, a built-in class -/
theorem we_rf {a : Addr} (hg : Gl X x) (hm : X.mg x = some (.ref a)) (hd : (x == ("__debug__" : Str)) = false := by decide) : WE g X (.Name x pos) (fun _ Q => Q false (.rf a)) := we_c (pe_glob hg hm (v := .ref a) rfl hd) fun _ _ => .rf a
theorem we_gi {i : Int} {t : Tok} (hg : Gl X x) (hm : X.mg x = some (.int i t)) (hd : (x == ("__debug__" : Str)) = false := by decide) : WE g X (.Name x pos) (fun _ Q => Q false (.int i)) := we_c (pe_glob hg hm (v := .int i) ⟨_, rfl⟩ hd) fun _ _ => .int i
theorem we_ty {n : String} (hg : Gl X x) (hm : X.mg x = none) (hv : bootBuiltins x = some (.type n)) (hn : x ≠ "__name__" := by decide) (hd : (x == ("__debug__" : Str)) = false := by decide) : WE g X (.Name x pos) (fun _ Q => Q false (.ty n)) := we_c (pe_bltn hg hm hv (v := .ty n) rfl hn hd) fun _ _ => .ty n
end
end DW
namespace DW
open PySem PySem.Spec PyProof.Rows L2

/-! ### plain data as the model's -/
mutual
def D.py : D → PyData
  | .bl b => .bool b
  | .int i => .int i
  | .str x => .str x
  | .tup xs => .tuple (D.pyAll xs)
  | .lst xs => .list (D.pyAll xs)
  | _ => .none
def D.pyAll : List D → List PyData
  | [] => []
  | x :: xs => x.py :: D.pyAll xs
end
mutual
/-- None, truths, ints, texts, tuples and lists of these; ints and texts are short -/
def D.tiny : D → Bool
  | .non => true
  | .bl _ => true
  | .int i => decide (i.natAbs < 10 ^ 36)
  | .str x => PyData.strOk x && x.cps.toList.all (fun c => decide (c < 16 ^ 8))
  | .tup xs => D.tinyAll xs
  | .lst xs => D.tinyAll xs
  | _ => false
def D.tinyAll : List D → Bool
  | [] => true
  | x :: xs => x.tiny && D.tinyAll xs
end
mutual
def D.wt : D → Nat
  | .str x => x.cps.size
  | .tup xs => D.wtAll xs
  | .lst xs => D.wtAll xs
  | .int _ => 1
  | _ => 0
def D.wtAll : List D → Nat
  | [] => 0
  | x :: xs => x.wt + 1 + D.wtAll xs
end
mutual
def D.dep : D → Nat
  | .tup xs => D.depAll xs + 1
  | .lst xs => D.depAll xs + 1
  | _ => 0
def D.depAll : List D → Nat
  | [] => 0
  | x :: xs => max x.dep (D.depAll xs)
end
theorem pyAll_map : ∀ xs : List D, D.pyAll xs = xs.map D.py
  | [] => rfl
  | x :: xs => by simp [D.pyAll, pyAll_map xs]
theorem tinyAll_iff : ∀ xs : List D, D.tinyAll xs = true ↔ ∀ x ∈ xs, x.tiny = true
  | [] => by simp [D.tinyAll]
  | x :: xs => by simp [D.tinyAll, tinyAll_iff xs]
mutual
theorem DR.dp {Av : Addr → Prop} {H : Hp} {K : PySem.W.Frag} : ∀ {d : D} {v : V}, DR Av H v d → d.tiny = true → Dp K H v d.py
  | .non, _, .non, _ => .non
  | .bl b, _, .bl _, _ => .bl b
  | .int b, _, .int _, _ => .int b
  | .str b, _, .str _, _ => .str b
  | .tup ds, _, .tup _ h r, t => by
    simp only [D.py]
    exact .tup (.inl (.inl h)) (DRs.dp r (by simpa [D.tiny] using t))
  | .lst ds, _, .lst _ h r, t => by
    simp only [D.py]
    exact .lst (.inl (.inl h)) (DRs.dp r (by simpa [D.tiny] using t))
  | .dK _, _, _, t => by simp [D.tiny] at t
  | .dT _, _, _, t => by simp [D.tiny] at t
  | .obj _ _, _, _, t => by simp [D.tiny] at t
  | .rf _, _, _, t => by simp [D.tiny] at t
  | .ty _, _, _, t => by simp [D.tiny] at t
theorem DRs.dp {Av : Addr → Prop} {H : Hp} {K : PySem.W.Frag} : ∀ {ds : List D} {vs : List V}, DRs Av H vs ds → D.tinyAll ds = true → DpAll K H vs (D.pyAll ds)
  | [], _, .nil, _ => by simp only [D.pyAll]; exact .nil
  | d :: ds, _, .cons h r, t => by
    simp only [D.tinyAll, Bool.and_eq_true] at t
    simp only [D.pyAll]
    exact .cons (DR.dp h t.1) (DRs.dp r t.2)
end
theorem Rdv.dp {Av Av' : Addr → Prop} {H : Hp} {K : PySem.W.Frag} {d : D} {v : V} (h : Rdv Av Av' H v d) (t : d.tiny = true) : Dp K H v d.py := by
  rcases h with h | ⟨p, u, c, rfl, rfl, _, e, r⟩
  · exact h.dp t
  · cases c with
    | lst ds =>
      obtain ⟨vs, rfl, r⟩ := r
      simp only [Ct.d, D.py]
      exact .lst (.inl (.inl e)) (DRs.dp r (by simpa [Ct.d, D.tiny] using t))
    | dK _ => simp [Ct.d, D.tiny] at t
    | dT _ => simp [Ct.d, D.tiny] at t
mutual
theorem tiny_lay : ∀ d : D, d.tiny = true → d.py.canLay0 = true ∧ d.py.leavesShort 40 = true ∧ d.py.showable = true ∧ d.py.hasDict = false ∧ d.py.weight ≤ 121 * d.wt ∧ d.py.depth = d.dep
  | .non, _ => by simp [D.py, PyData.canLay0, PyData.leavesShort, PyData.showable, PyData.hasDict, PyData.weight, PyData.depth, D.dep]
  | .bl b, _ => by simp [D.py, PyData.canLay0, PyData.leavesShort, PyData.showable, PyData.hasDict, PyData.weight, PyData.depth, D.dep]
  | .int i, t => by
    have h : i.natAbs < 10 ^ 36 := by simpa [D.tiny] using t
    have h2 : i.natAbs.log2 < 120 := by
      by_cases z : i.natAbs = 0
      · rw [z]; decide
      · exact (_root_.Nat.log2_lt z).mpr (Nat.lt_of_lt_of_le h (by decide))
    have e := int_text_length_le10 (k := 36) (by decide) h
    have e2 : (PyData.shown (.int i)).length ≤ 40 := by
      show (Str.ofString (toString i)).length ≤ 40
      rw [PySem.ofString_length]; omega
    refine ⟨rfl, by simpa [D.py, PyData.leavesShort] using e2, by simp only [D.py, PyData.showable]; exact decide_eq_true (by omega), rfl, ?_, rfl⟩
    simp only [D.py, PyData.weight, D.wt]
    split <;> omega
  | .str x, t => by
    simp only [D.tiny, Bool.and_eq_true] at t
    refine ⟨t.1, by simpa [D.py, PyData.leavesShort] using t.2, rfl, rfl, ?_, rfl⟩
    simp only [D.py, PyData.weight, D.wt]
    omega
  | .tup xs, t => by
    obtain ⟨a, b, c, d, e, f⟩ := tinyAll_lay xs (by simpa [D.tiny] using t)
    simp only [D.py, PyData.canLay0, PyData.leavesShort, PyData.showable, PyData.hasDict, PyData.weight, PyData.depth, D.dep, D.wt]
    exact ⟨a, b, c, d, e, by rw [f]⟩
  | .lst xs, t => by
    obtain ⟨a, b, c, d, e, f⟩ := tinyAll_lay xs (by simpa [D.tiny] using t)
    simp only [D.py, PyData.canLay0, PyData.leavesShort, PyData.showable, PyData.hasDict, PyData.weight, PyData.depth, D.dep, D.wt]
    exact ⟨a, b, c, d, e, by rw [f]⟩
  | .dK _, t => by simp [D.tiny] at t
  | .dT _, t => by simp [D.tiny] at t
  | .obj _ _, t => by simp [D.tiny] at t
  | .rf _, t => by simp [D.tiny] at t
  | .ty _, t => by simp [D.tiny] at t
theorem tinyAll_lay : ∀ ds : List D, D.tinyAll ds = true → PyData.canLayAll0 (D.pyAll ds) = true ∧ PyData.leavesShortAll 40 (D.pyAll ds) = true ∧ PyData.showableAll (D.pyAll ds) = true ∧ PyData.hasDictAll (D.pyAll ds) = false ∧ PyData.weightAll (D.pyAll ds) ≤ 121 * D.wtAll ds ∧ PyData.depthAll (D.pyAll ds) = D.depAll ds
  | [], _ => by simp [D.pyAll, PyData.canLayAll0, PyData.leavesShortAll, PyData.showableAll, PyData.hasDictAll, PyData.weightAll, PyData.depthAll, D.depAll, D.wtAll]
  | x :: xs, t => by
    simp only [D.tinyAll, Bool.and_eq_true] at t
    obtain ⟨a, b, c, d, e, f⟩ := tiny_lay x t.1
    obtain ⟨a', b', c', d', e', f'⟩ := tinyAll_lay xs t.2
    simp only [D.pyAll, PyData.canLayAll0, PyData.leavesShortAll, PyData.showableAll, PyData.hasDictAll, PyData.weightAll, PyData.depthAll, D.depAll, D.wtAll, a, b, c, d, a', b', c', d', f, f']
    refine ⟨by simp, by simp, by simp, by simp, ?_, by simp⟩
    omega
end
/-- fit to be shown -/
def D.shw (d : D) : Prop := d.tiny = true ∧ d.wt ≤ 3000 ∧ d.dep ≤ 60
def D.shown (d : D) : Str := d.py.shown
theorem shw_len {d : D} (h : d.shw) : d.py.shown.length ≤ sizeLine := by
  obtain ⟨t, w, p⟩ := h
  obtain ⟨a, b, c, e, f, g⟩ := tiny_lay d t
  have q := PyData.shown_le 40 (by decide) d.py b
  have z : sizeLine = 16777216 := sizeLine_eq
  rw [z]
  have : (40 + 2) * d.py.weight ≤ 42 * (121 * 3000) := Nat.mul_le_mul (Nat.le_refl _) (Nat.le_trans f (Nat.mul_le_mul (Nat.le_refl _) w))
  omega
theorem tiny_shaped {d : D} (h : d.tiny = true) (p : d.dep ≤ 60) : SeqAt.shaped d.py = true := by
  obtain ⟨a, b, c, e, f, g⟩ := tiny_lay d h
  unfold SeqAt.shaped
  rw [a, g]
  exact decide_eq_true (by omega)

/-! ### repr -/
def rRepr (K : PySem.W.Frag) : List V → Hp → VK → Prop := fun xs H Q => ∃ v d, xs = [v] ∧ Dp K H v d ∧ d.showable = true ∧ d.hasDict = false ∧ d.depth ≤ 60 ∧ d.shown.length ≤ sizeLine ∧ Q (.str d.shown) H
theorem cr_repr {X : Cx} (gd : X.A.guards = some []) (hu : X.A.units + 64 < cLine) : CallR X (.builtin "repr") (rRepr X.K) := by
  intro pins s σ H xs us Q I r h
  obtain ⟨v, d, rfl, hd, hs, hn, hp, hz, q⟩ := h
  obtain ⟨u, rfl, ru⟩ := vals1 r
  obtain ⟨as, rd⟩ := Dp.reads I d v u hd ru
  have fin : ∀ (h' : Heap) (u' tk : Tok), (∀ b o, s.heap.get? b = some o → h'.get? b = some o) → EP X pins σ Q (.str d.shown u') { s with heap := h', toks := tk } :=
    fun h' u' tk k => ⟨.str d.shown, H, I.kept (t' := tk) k, ⟨_, rfl⟩, q⟩
  cases hd with
  | non => cases ru; exact PySem.P.repr_of_none ⟨.str _, H, I.tok _, ⟨_, rfl⟩, q⟩
  | bl b => cases ru; exact PySem.P.repr_of_bool ⟨.str _, H, I.tok _, ⟨_, rfl⟩, q⟩
  | int i =>
    obtain ⟨t, rfl⟩ := ru
    exact PySem.P.repr_of_int (of_decide_eq_true (by simpa [PyData.showable] using hs)) ⟨.str _, H, I.tok _, ⟨_, rfl⟩, q⟩
  | str x =>
    obtain ⟨t, rfl⟩ := ru
    exact PySem.P.repr_of_str ⟨.str _, H, I.tok _, ⟨_, rfl⟩, q⟩ hz
  | lst _ _ => cases ru; exact repr_of_reads' rd hs (PyData.noDict_hsm hn) gd (by omega) (fun _ _ e => e) (fun h' u tk k => fin h' u tk k) hz
  | tup _ _ => cases ru; exact repr_of_reads' rd hs (PyData.noDict_hsm hn) gd (by omega) (fun _ _ e => e) (fun h' u tk k => fin h' u tk k) hz
end DW
namespace DW
open PySem PySem.Spec PyProof.Rows L2

abbrev RQ := Bool → D → Prop
/-- where an operation on values stands -/
structure Fit (g : Gd) (Avs Av : Addr → Prop) (H : Hp) : Prop where
  gg : g.G H
  t1 : ∀ a, g.T a → Avs a
  t2 : ∀ a, g.T a → Av a
  tr : ∀ a, Avs a → Nt (H a)
  sub : ∀ a, Av a → Avs a
  ol : ∀ a, Avs a → ¬ Av a → ∃ u, H a = some u ∧ Mt u
section
variable {g : Gd} {Avs Av : Addr → Prop} {H H1 : Hp}
theorem Fit.mono (F : Fit g Avs Av H) (k : Kp g H H1) : Fit g Avs Av H1 := ⟨k.2, F.t1, F.t2, fun a h => Kp.tracked k.2 k (F.tr a h), F.sub, fun a h n => let ⟨vs, e, m⟩ := F.ol a h n; ⟨vs, k.1 a _ e fun w => n (F.t2 a (g.wt a w)), m⟩⟩
/-- a new list -/
theorem Fit.lst (F : Fit g Avs Av H) {vs : List V} {ds : List D} {p : Addr} (r : DRs Avs H vs ds) (hp : H p = none) : Kp g H (upd H p (.lst vs)) ∧ Res Avs H (.ref p) true (.lst ds) (upd H p (.lst vs)) := by
  have k : Kp g H (upd H p (.lst vs)) := Kp.new F.gg hp
  have np : ¬ Avs p := fun z => F.tr p z hp
  have m : Mv Avs (fun a => Avs a ∨ a = p) H (upd H p (.lst vs)) := by
    refine ⟨fun a u n e => ?_⟩
    have ne : a ≠ p := ne_of_none e hp
    exact ⟨fun z => z.elim n ne, by rw [upd_ne ne]; exact e⟩
  have m2 : Mv Avs Avs H (upd H p (.lst vs)) := Mv.kp F.t1 k
  exact ⟨k, .lst np upd_same (r.mv m2), fun _ => ⟨p, vs, ds, rfl, rfl, hp, upd_same, r.mv m⟩⟩
theorem Fit.tup (F : Fit g Avs Av H) {vs : List V} {ds : List D} {p : Addr} (r : DRs Avs H vs ds) (hp : H p = none) : Kp g H (upd H p (.tup vs)) ∧ Res Avs H (.ref p) false (.tup ds) (upd H p (.tup vs)) := by
  have k : Kp g H (upd H p (.tup vs)) := Kp.new F.gg hp
  have np : ¬ Avs p := fun z => F.tr p z hp
  exact ⟨k, .tup np upd_same (r.mv (Mv.kp F.t1 k)), fun z => nomatch z⟩
end
theorem Rel.fit {g : Gd} {Av B : Addr → Prop} {gh : V → D → Prop} {H0 H : Hp} {o : Nat → Addr} {σ : L2.St} {st : Sx} (F : FrOk g Av H0) (R : Rel g Av B gh H0 o σ st H) : Fit g (Avo Av B o st) (fun a => Av a ∨ B a) H :=
  ⟨R.kp.2, fun a h => Avo.ta F h, fun a h => .inl (F.ta a h), fun a h => R.tracked F h, fun a h => .inl h, fun a h n => by
    rcases h with h | ⟨i, ds, e1, e2⟩
    · exact absurd h n
    · obtain ⟨_, _, _, vs, e3, r⟩ := R.ow i ds e1
      rw [e2] at e3; exact ⟨vs, e3, r.mt⟩⟩

/-! ### argument lists -/
abbrev WPA := Sx → (List D → Prop) → Prop
def WA (g : Gd) (X : Cx) (es : List Expr) (w : WPA) : Prop := ∃ t, PA X es t ∧ ∀ Av B gh H0 o σ st H Q Qd, g.G H0 → FrOk g Av H0 → Rel g Av B gh H0 o σ st H → w st Qd →
  (∀ ds vs H', Kp g H H' → DRs (Avo Av B o st) H' vs ds → Qd ds → Q vs H') → t σ H Q
inductive Rdvs (Avs Av : Addr → Prop) (H : Hp) : List V → List D → Prop
  | nil : Rdvs Avs Av H [] []
  | cons {v : V} {vs : List V} {d : D} {ds : List D} : Rdv Avs Av H v d → Rdvs Avs Av H vs ds → Rdvs Avs Av H (v :: vs) (d :: ds)
def WAR (g : Gd) (X : Cx) (es : List Expr) (w : WPA) : Prop := ∃ t, PA X es t ∧ ∀ Av B gh H0 o σ st H Q Qd, g.G H0 → FrOk g Av H0 → Rel g Av B gh H0 o σ st H → w st Qd →
  (∀ ds vs H', Kp g H H' → Rdvs (Avo Av B o st) (fun a => Av a ∨ B a) H' vs ds → Qd ds → Q vs H') → t σ H Q
section
variable {g : Gd} {X : Cx} {e : Expr} {es : List Expr} {w : WP} {wa : WPA}
theorem wa_nil : WA g X [] (fun _ Q => Q []) := ⟨_, pa_nil, fun Av B gh H0 o σ st H Q Qd hg F R hw hk => hk [] [] H (Kp.refl R.kp.2) .nil hw⟩
theorem wa_cons (h : WE g X e w) (hr : WA g X es wa) (hs : starEach (e :: es) X.env = (false, eval e X.env) :: starEach es X.env := by rfl) : WA g X (e :: es) (fun st Q => w st fun _ d => wa st fun ds => Q (d :: ds)) := by
  obtain ⟨t, p, q⟩ := h
  obtain ⟨t2, p2, q2⟩ := hr
  refine ⟨_, pa_cons p p2 hs, fun Av B gh H0 o σ st H Q Qd hg F R hw hk => ?_⟩
  refine q Av B gh H0 o σ st H _ _ hg F R hw fun fr d v H1 k1 r1 hw1 => ?_
  refine q2 Av B gh H0 o σ st H1 _ _ hg F (R.mono F k1) hw1 fun ds vs H2 k2 r2 hd => ?_
  exact hk (d :: ds) (v :: vs) H2 (k1.trans k2) (.cons (r1.dr.mv (Mv.avo F k2)) r2) hd
theorem war_nil : WAR g X [] (fun _ Q => Q []) := ⟨_, pa_nil, fun Av B gh H0 o σ st H Q Qd hg F R hw hk => hk [] [] H (Kp.refl R.kp.2) .nil hw⟩
theorem war_cons (h : WR g X e w) (hr : WAR g X es wa) (hs : starEach (e :: es) X.env = (false, eval e X.env) :: starEach es X.env := by rfl) : WAR g X (e :: es) (fun st Q => w st fun _ d => wa st fun ds => Q (d :: ds)) := by
  obtain ⟨t, p, q⟩ := h
  obtain ⟨t2, p2, q2⟩ := hr
  refine ⟨_, pa_cons p p2 hs, fun Av B gh H0 o σ st H Q Qd hg F R hw hk => ?_⟩
  refine q Av B gh H0 o σ st H _ _ hg F R hw fun fr d v H1 k1 r1 hw1 => ?_
  refine q2 Av B gh H0 o σ st H1 _ _ hg F (R.mono F k1) hw1 fun ds vs H2 k2 r2 hd => ?_
  exact hk (d :: ds) (v :: vs) H2 (k1.trans k2) (.cons (r1.mono (fun a h => Avo.ta F h) (fun a h => .inl (F.ta a h)) k2) r2) hd

/-! ### displays -/
theorem we_tup {x1 : Nat} {pos : Pos} (h : WA g X es wa) : WE g X (.Tuple es x1 pos) (fun st Q => wa st fun ds => ds.length ≤ sizeLine ∧ Q false (.tup ds)) := by
  obtain ⟨t, p, q⟩ := h
  refine ⟨_, pe_tup p, fun Av B gh H0 o σ st H Q Qd hg F R hw hk => ?_⟩
  refine q Av B gh H0 o σ st H _ _ hg F R hw fun ds vs H1 k1 r1 hd => ?_
  refine ⟨by rw [r1.length]; exact hd.1, fun a ha => ?_⟩
  obtain ⟨k2, r2⟩ := ((R.mono F k1).fit F).tup r1 ha
  exact hk false _ _ _ (k1.trans k2) (.old r2.dr) hd.2
theorem we_lst {pos : Pos} (h : WA g X es wa) : WE g X (.List es pos) (fun st Q => wa st fun ds => ds.length ≤ sizeLine ∧ Q true (.lst ds)) := by
  obtain ⟨t, p, q⟩ := h
  refine ⟨_, pe_lst p, fun Av B gh H0 o σ st H Q Qd hg F R hw hk => ?_⟩
  refine q Av B gh H0 o σ st H _ _ hg F R hw fun ds vs H1 k1 r1 hd => ?_
  refine ⟨by rw [r1.length]; exact hd.1, fun a ha => ?_⟩
  obtain ⟨k2, r2⟩ := ((R.mono F k1).fit F).lst r1 ha
  refine hk true _ _ _ (k1.trans k2) ⟨r2.dr, fun _ => ?_⟩ hd.2
  obtain ⟨p', vs', ds', e1, e2, e3, e4, e5⟩ := r2.new rfl
  exact ⟨p', vs', ds', e1, e2, k1.free R.kp.2 e3, e4, e5⟩
end

/-! ### operations on two values -/
abbrev Sem2 := D → D → RQ → Prop
def S2 (g : Gd) (r : R2) (m : Sem2) : Prop := ∀ (Avs Av : Addr → Prop) (H : Hp) (x y : D) (vx vy : V) (Q : VK) (Qd : RQ), Fit g Avs Av H → Rdv Avs Av H vx x → Rdv Avs Av H vy y → m x y Qd →
  (∀ fr d v H', Kp g H H' → Res Avs H v fr d H' → Qd fr d → Q v H') → r vx vy H Q
theorem Res.back {g : Gd} {Avs : Addr → Prop} {H H1 H2 : Hp} {v : V} {fr : Bool} {d : D} (hg : g.G H) (k : Kp g H H1) (r : Res Avs H1 v fr d H2) : Res Avs H v fr d H2 :=
  ⟨r.dr, fun e => let ⟨p, vs, ds, e1, e2, e3, e4⟩ := r.new e; ⟨p, vs, ds, e1, e2, k.free hg e3, e4⟩⟩
section
variable {g : Gd} {X : Cx} {a b : Expr} {wa wb : WP} {m : Sem2} {r : R2} {pos : Pos}
theorem we_bin {op : Operator} (ho : OpR X (binaryOp op) r) (hs : S2 g r m) (ha : WR g X a wa) (hb : WR g X b wb) : WE g X (.BinOp a op b pos) (fun st Q => wa st fun _ x => wb st fun _ y => m x y Q) := by
  obtain ⟨t, p, q⟩ := ha
  obtain ⟨t2, p2, q2⟩ := hb
  refine ⟨_, pe_op ho p p2, fun Av B gh H0 o σ st H Q Qd hg F R hw hk => ?_⟩
  refine q Av B gh H0 o σ st H _ _ hg F R hw fun fr d v H1 k1 r1 hw1 => ?_
  refine q2 Av B gh H0 o σ st H1 _ _ hg F (R.mono F k1) hw1 fun fr2 d2 v2 H2 k2 r2 hd => ?_
  refine hs _ _ H2 d d2 v v2 Q Qd (((R.mono F k1).mono F k2).fit F) (r1.mono (fun a h => Avo.ta F h) (fun a h => .inl (F.ta a h)) k2) r2 hd fun fr d v H' k3 r3 hq => ?_
  exact hk fr d v H' ((k1.trans k2).trans k3) (r3.back R.kp.2 (k1.trans k2)) hq
theorem we_cmp {op : CmpOp} (ho : OpR X (compareOp op) r) (hs : S2 g r m) (ha : WR g X a wa) (hb : WR g X b wb) (hm : behindInMarks op b = false) : WE g X (.Compare a [op] [b] pos) (fun st Q => wa st fun _ x => wb st fun _ y => m x y Q) := by
  obtain ⟨t, p, q⟩ := ha
  obtain ⟨t2, p2, q2⟩ := hb
  refine ⟨_, pe_cmpR ho p p2 hm, fun Av B gh H0 o σ st H Q Qd hg F R hw hk => ?_⟩
  refine q Av B gh H0 o σ st H _ _ hg F R hw fun fr d v H1 k1 r1 hw1 => ?_
  refine q2 Av B gh H0 o σ st H1 _ _ hg F (R.mono F k1) hw1 fun fr2 d2 v2 H2 k2 r2 hd => ?_
  refine hs _ _ H2 d d2 v v2 Q Qd (((R.mono F k1).mono F k2).fit F) (r1.mono (fun a h => Avo.ta F h) (fun a h => .inl (F.ta a h)) k2) r2 hd fun fr d v H' k3 r3 hq => ?_
  exact hk fr d v H' ((k1.trans k2).trans k3) (r3.back R.kp.2 (k1.trans k2)) hq
theorem we_ix (hx : IxR X r) (hs : S2 g r m) (ha : WR g X a wa) (hb : WR g X b wb) (hp : PlainIx b := by exact fun _ _ => rfl) : WE g X (.Subscript a b pos) (fun st Q => wa st fun _ x => wb st fun _ y => m x y Q) := by
  obtain ⟨t, p, q⟩ := ha
  obtain ⟨t2, p2, q2⟩ := hb
  refine ⟨_, pe_ix hx p p2 hp, fun Av B gh H0 o σ st H Q Qd hg F R hw hk => ?_⟩
  refine q Av B gh H0 o σ st H _ _ hg F R hw fun fr d v H1 k1 r1 hw1 => ?_
  refine q2 Av B gh H0 o σ st H1 _ _ hg F (R.mono F k1) hw1 fun fr2 d2 v2 H2 k2 r2 hd => ?_
  refine hs _ _ H2 d d2 v v2 Q Qd (((R.mono F k1).mono F k2).fit F) (r1.mono (fun a h => Avo.ta F h) (fun a h => .inl (F.ta a h)) k2) r2 hd fun fr d v H' k3 r3 hq => ?_
  exact hk fr d v H' ((k1.trans k2).trans k3) (r3.back R.kp.2 (k1.trans k2)) hq
/-- a op1 b op2 c -/
theorem we_chain {c : Expr} {wc : WP} {op op' : CmpOp} {r' : R2} {m' : Sem2} (ho : OpR X (compareOp op) r) (ho' : OpR X (compareOp op') r') (hs : S2 g r m) (hs' : S2 g r' m') (ha : WR g X a wa) (hb : WR g X b wb) (hc : WR g X c wc)
    (pc : ∀ {ta tb tc}, PE X a ta → PE X b tb → PE X c tc → PE X (.Compare a [op, op'] [b, c] pos) (tChain r r' ta tb tc)) :
    WE g X (.Compare a [op, op'] [b, c] pos) (fun st Q => wa st fun _ x => wb st fun _ y => m x y fun _ z => ∃ k, z = .bl k ∧ (if k = true then wc st fun _ u => m' y u Q else Q false (.bl false))) := by
  obtain ⟨t, p, q⟩ := ha
  obtain ⟨t2, p2, q2⟩ := hb
  obtain ⟨t3, p3, q3⟩ := hc
  refine ⟨_, pc p p2 p3, fun Av B gh H0 o σ st H Q Qd hg F R hw hk => ?_⟩
  have T1 : ∀ a, g.T a → Avo Av B o st a := fun a h => Avo.ta F h
  have T2 : ∀ a, g.T a → (Av a ∨ B a) := fun a h => .inl (F.ta a h)
  refine q Av B gh H0 o σ st H _ _ hg F R hw fun fr d v H1 k1 r1 hw1 => ?_
  refine q2 Av B gh H0 o σ st H1 _ _ hg F (R.mono F k1) hw1 fun fr2 d2 v2 H2 k2 r2 hd => ?_
  refine hs _ _ H2 d d2 v v2 _ _ (((R.mono F k1).mono F k2).fit F) (r1.mono T1 T2 k2) r2 hd fun fr d3 v3 H3 k3 r3 hq => ?_
  obtain ⟨k, rfl, hq⟩ := hq
  have e3 : v3 = .bl k := by cases r3.dr; rfl
  refine ⟨k, e3, ?_⟩
  cases k with
  | true =>
    simp only [if_true] at hq ⊢
    refine q3 Av B gh H0 o σ st H3 _ _ hg F (R.mono F ((k1.trans k2).trans k3)) hq fun fr4 d4 v4 H4 k4 r4 hd4 => ?_
    refine hs' _ _ H4 d2 d4 v2 v4 Q Qd ((R.mono F (((k1.trans k2).trans k3).trans k4)).fit F) (r2.mono T1 T2 (k3.trans k4)) r4 hd4 fun fr5 d5 v5 H5 k5 r5 hq5 => ?_
    exact hk fr5 d5 v5 H5 ((((k1.trans k2).trans k3).trans k4).trans k5) (r5.back R.kp.2 (((k1.trans k2).trans k3).trans k4)) hq5
  | false =>
    simp only [Bool.false_eq_true, if_false] at hq ⊢
    exact hk false _ _ H3 ((k1.trans k2).trans k3) (.old (.bl false)) hq
end

/-! ### the operations -/
def mI (f : Int → Int → Int) : Sem2 | .int i, .int j, Q => Q false (.int (f i j)) | _, _, _ => False
def mIC (c : Int → Int → Prop) (f : Int → Int → Int) : Sem2 | .int i, .int j, Q => c i j ∧ Q false (.int (f i j)) | _, _, _ => False
def mB (f : Int → Int → Bool) : Sem2 | .int i, .int j, Q => Q false (.bl (f i j)) | _, _, _ => False
section
variable {g : Gd} {X : Cx}
theorem s2_I {f : Int → Int → Int} : S2 g (rI0 fun i j => .int (f i j)) (mI f) := by
  intro Avs Av H x y vx vy Q Qd F rx ry hm hk
  cases x <;> cases y <;> simp only [mI] at hm
  cases rx.int; cases ry.int
  exact ⟨_, _, rfl, rfl, hk false _ _ H (Kp.refl F.gg) (.old (.int _)) hm⟩
theorem s2_IC {c : Int → Int → Prop} {f : Int → Int → Int} : S2 g (rI c fun i j => .int (f i j)) (mIC c f) := by
  intro Avs Av H x y vx vy Q Qd F rx ry hm hk
  cases x <;> cases y <;> simp only [mIC] at hm
  cases rx.int; cases ry.int
  exact ⟨_, _, rfl, rfl, hm.1, hk false _ _ H (Kp.refl F.gg) (.old (.int _)) hm.2⟩
theorem s2_B {f : Int → Int → Bool} : S2 g (rI0 fun i j => .bl (f i j)) (mB f) := by
  intro Avs Av H x y vx vy Q Qd F rx ry hm hk
  cases x <;> cases y <;> simp only [mB] at hm
  cases rx.int; cases ry.int
  exact ⟨_, _, rfl, rfl, hk false _ _ H (Kp.refl F.gg) (.old (.bl _)) hm⟩
/-- + -/
def mAdd : Sem2
  | .int i, .int j, Q => Q false (.int (i + j))
  | .int i, .bl b, Q => Q false (.int (i + b2i b))
  | .lst a, .lst b, Q => a.length + b.length ≤ sizeLine ∧ Q true (.lst (a ++ b))
  | .tup a, .tup b, Q => a.length + b.length ≤ sizeLine ∧ Q false (.tup (a ++ b))
  | .str a, .str b, Q => a.length + b.length ≤ sizeLine ∧ Q false (.str (a ++ b))
  | _, _, _ => False
def rAddA (X : Cx) : R2 := fun x y H Q => rI0 (fun i j => .int (i + j)) x y H Q ∨ (∃ i k, x = .int i ∧ y = .bl k ∧ Q (.int (i + b2i k)) H) ∨ rCat x y H Q ∨ rCatA X.K x y H Q ∨ (∃ i j, x = .str i ∧ y = .str j ∧ i.length + j.length ≤ sizeLine ∧ Q (.str (i ++ j)) H)
theorem op_addA : OpR X (binaryOp .Add) (rAddA X) := op_add.or (op_add_ib.or (op_cat.or (op_catA.or op_add_str)))
theorem s2_add : S2 g (rAddA X) mAdd := by
  intro Avs Av H x y vx vy Q Qd F rx ry hm hk
  cases x <;> cases y <;> simp only [mAdd] at hm
  case int.bl i b => cases rx.int; cases ry.bl; exact .inr (.inl ⟨_, _, rfl, rfl, hk false _ _ H (Kp.refl F.gg) (.old (.int _)) hm⟩)
  case int.int i j => cases rx.int; cases ry.int; exact .inl ⟨_, _, rfl, rfl, hk false _ _ H (Kp.refl F.gg) (.old (.int _)) hm⟩
  case str.str i j => cases rx.str; cases ry.str; exact .inr (.inr (.inr (.inr ⟨_, _, rfl, rfl, hm.1, hk false _ _ H (Kp.refl F.gg) (.old (.str _)) hm.2⟩)))
  case tup.tup a b =>
    obtain ⟨p, vs, rfl, e1, r1, d1⟩ := rx.tup
    obtain ⟨q, ws, rfl, e2, r2, d2⟩ := ry.tup
    have l1 := r1.length
    have l2 := r2.length
    refine .inr (.inr (.inr (.inl ⟨p, q, vs, ws, rfl, rfl, .inl (.inl e1), .inl (.inl e2), by rw [l1, l2]; exact hm.1, fun z => ?_, fun z z2 => ?_, fun z z2 u hu => ?_⟩)))
    · subst z
      have ea : a = [] := List.length_eq_zero_iff.mp (by simpa using l1.symm)
      subst ea
      exact hk false _ _ H (Kp.refl F.gg) (.old (by simpa using d2)) hm.2
    · subst z2
      have ea : b = [] := List.length_eq_zero_iff.mp (by simpa using l2.symm)
      subst ea
      exact hk false _ _ H (Kp.refl F.gg) (.old (by simpa using d1)) hm.2
    · obtain ⟨k, r⟩ := F.tup (r1.app r2) hu
      exact hk false _ _ _ k r hm.2
  case lst.lst a b =>
    obtain ⟨p, vs, rfl, e1, r1⟩ := rx.lst
    obtain ⟨q, ws, rfl, e2, r2⟩ := ry.lst
    refine .inr (.inr (.inl ⟨p, q, vs, ws, rfl, rfl, e1, e2, by rw [r1.length, r2.length]; exact hm.1, fun u hu => ?_⟩))
    obtain ⟨k, r⟩ := F.lst (r1.app r2) hu
    exact hk true _ _ _ k r hm.2
/-- * -/
def mMul : Sem2
  | .int i, .int j, Q => CMul i j ∧ Q false (.int (i * j))
  | .lst a, .int k, Q => -(2 ^ 63) ≤ k ∧ k < 2 ^ 63 ∧ a.length * k.toNat ≤ sizeLine ∧ Q true (.lst (List.replicate k.toNat a).flatten)
  | _, _, _ => False
def rMulA : R2 := fun x y H Q => rI CMul (fun i j => .int (i * j)) x y H Q ∨ rRep x y H Q
theorem op_mulA : OpR X (binaryOp .Mult) rMulA := op_mul.or op_rep
theorem s2_mul : S2 g rMulA mMul := by
  intro Avs Av H x y vx vy Q Qd F rx ry hm hk
  cases x <;> cases y <;> simp only [mMul] at hm
  case int.int i j => cases rx.int; cases ry.int; exact .inl ⟨_, _, rfl, rfl, hm.1, hk false _ _ H (Kp.refl F.gg) (.old (.int _)) hm.2⟩
  case lst.int a k =>
    obtain ⟨p, vs, rfl, e1, r1⟩ := rx.lst
    cases ry.int
    refine .inr ⟨p, k, vs, rfl, rfl, e1, hm.1, hm.2.1, by rw [r1.length]; exact hm.2.2.1, fun u hu => ?_⟩
    obtain ⟨kp, r⟩ := F.lst (r1.rep k.toNat) hu
    exact hk true _ _ _ kp r hm.2.2.2
/-- ==, != of plain data -/
def mEq : Sem2 := fun x y Q => (x.tiny = true ∧ x.dep ≤ 60) ∧ (y.tiny = true ∧ y.dep ≤ 60) ∧ Q false (.bl (PyData.eqv x.py y.py))
def mNe : Sem2 := fun x y Q => (x.tiny = true ∧ x.dep ≤ 60) ∧ (y.tiny = true ∧ y.dep ≤ 60) ∧ Q false (.bl (!PyData.eqv x.py y.py))
theorem s2_eq : S2 g (rEqD X.K) mEq := by
  intro Avs Av H x y vx vy Q Qd F rx ry hm hk
  obtain ⟨⟨a, b⟩, ⟨c, d⟩, q⟩ := hm
  exact ⟨x.py, y.py, rx.dp a, ry.dp c, tiny_shaped a b, tiny_shaped c d, hk false _ _ H (Kp.refl F.gg) (.old (.bl _)) q⟩
theorem s2_ne : S2 g (rNeD X.K) mNe := by
  intro Avs Av H x y vx vy Q Qd F rx ry hm hk
  obtain ⟨⟨a, b⟩, ⟨c, d⟩, q⟩ := hm
  exact ⟨x.py, y.py, rx.dp a, ry.dp c, tiny_shaped a b, tiny_shaped c d, hk false _ _ H (Kp.refl F.gg) (.old (.bl _)) q⟩
/-- in, not in: flat items -/
def D.flat : D → Bool | .non => true | .bl _ => true | .int _ => true | .str _ => true | _ => false
def D.fv : D → V | .bl b => .bl b | .int i => .int i | .str x => .str x | _ => .non
theorem DR.flat {Av : Addr → Prop} {H : Hp} {v : V} {d : D} (h : DR Av H v d) (f : d.flat = true) : v = d.fv ∧ flatV v = true := by
  cases h <;> simp [D.flat, D.fv, flatV] at f ⊢
theorem DRs.flat {Av : Addr → Prop} {H : Hp} : ∀ {vs : List V} {ds : List D}, DRs Av H vs ds → ds.all D.flat = true → vs = ds.map D.fv ∧ vs.all flatV = true
  | _, _, .nil, _ => ⟨rfl, rfl⟩
  | _, _, .cons h r, f => by
    simp only [List.all_cons, Bool.and_eq_true] at f
    obtain ⟨a, b⟩ := h.flat f.1
    obtain ⟨c, d⟩ := r.flat f.2
    exact ⟨by rw [a, c]; rfl, by simp only [List.all_cons, b, d, Bool.and_self]⟩
def mIn (neg : Bool) : Sem2
  | x, .lst ys, Q => x.flat = true ∧ ys.all D.flat = true ∧ Q false (.bl (if neg then !inV x.fv (ys.map D.fv) else inV x.fv (ys.map D.fv)))
  | x, .tup ys, Q => x.flat = true ∧ ys.all D.flat = true ∧ Q false (.bl (if neg then !inV x.fv (ys.map D.fv) else inV x.fv (ys.map D.fv)))
  | _, _, _ => False
theorem s2_in {neg : Bool} : S2 g (rIn X.K neg) (mIn neg) := by
  intro Avs Av H x y vx vy Q Qd F rx ry hm hk
  have fx : ∀ {f : x.flat = true}, vx = x.fv ∧ flatV vx = true := fun {f} => (rx.dr (by cases x <;> simp [D.flat] at f ⊢)).flat f
  cases y <;> simp only [mIn] at hm
  case tup ys =>
    obtain ⟨f1, f2, q⟩ := hm
    obtain ⟨p, vs, rfl, e1, r1, _⟩ := ry.tup
    obtain ⟨a, b⟩ := fx (f := f1)
    obtain ⟨c, d⟩ := r1.flat f2
    refine ⟨p, vs, rfl, .inr (.inl (.inl e1)), b, d, ?_⟩
    rw [a, c]
    exact hk false _ _ H (Kp.refl F.gg) (.old (.bl _)) q
  case lst ys =>
    obtain ⟨f1, f2, q⟩ := hm
    obtain ⟨p, vs, rfl, e1, r1⟩ := ry.lst
    obtain ⟨a, b⟩ := fx (f := f1)
    obtain ⟨c, d⟩ := r1.flat f2
    refine ⟨p, vs, rfl, .inl (.inl (.inl e1)), b, d, ?_⟩
    rw [a, c]
    exact hk false _ _ H (Kp.refl F.gg) (.old (.bl _)) q
/-- an item -/
def mIx : Sem2
  | .lst xs, .int i, Q => ∃ d, atI xs i = some d ∧ Q false d
  | .tup xs, .int i, Q => ∃ d, atI xs i = some d ∧ Q false d
  | _, _, _ => False
theorem DRs.at {Av : Addr → Prop} {H : Hp} {vs : List V} {ds : List D} {i : Int} {d : D} (r : DRs Av H vs ds) (h : atI ds i = some d) : ∃ v, atI vs i = some v ∧ DR Av H v d := by
  unfold atI at h ⊢
  rw [r.length]
  cases e : ixN ds.length i with
  | none => rw [e] at h; cases h
  | some j => rw [e] at h; exact r.get h
theorem s2_ix : S2 g (rIx X.K) mIx := by
  intro Avs Av H x y vx vy Q Qd F rx ry hm hk
  cases x <;> cases y <;> simp only [mIx] at hm
  case tup.int xs i =>
    obtain ⟨d, e, q⟩ := hm
    obtain ⟨p, vs, rfl, e1, r1, _⟩ := rx.tup
    cases ry.int
    obtain ⟨v, ev, rv⟩ := r1.at e
    exact .inr (.inl ⟨p, vs, i, v, rfl, rfl, .inl (.inl e1), ev, hk false _ _ H (Kp.refl F.gg) (.old rv) q⟩)
  case lst.int xs i =>
    obtain ⟨d, e, q⟩ := hm
    obtain ⟨p, vs, rfl, e1, r1⟩ := rx.lst
    cases ry.int
    obtain ⟨v, ev, rv⟩ := r1.at e
    exact .inl ⟨p, vs, i, v, rfl, rfl, .inl (.inl e1), ev, hk false _ _ H (Kp.refl F.gg) (.old rv) q⟩
/-- is None, is not None -/
def mIs (neg : Bool) : Sem2
  | x, .non, Q => (∀ xs, x ≠ .lst xs) ∧ Q false (.bl (if neg then !decide (x.fv = .non ∧ x.flat = true) else decide (x.fv = .non ∧ x.flat = true)))
  | _, _, _ => False
end
end DW
namespace DW
open PySem PySem.Spec PyProof.Rows L2

/-! ### defs -/
def spOf (g : Gd) (n : Nat) (SP : List D → RQ → Prop) : Sp := fun vs H Q _ => vs.length = n ∧ ∃ (Av : Addr → Prop) (ds : List D) (Qd : RQ), g.G H ∧ FrOk g Av H ∧ DRs Av H vs ds ∧ SP ds Qd ∧
  ∀ fr d v H', Kp g H H' → Res Av H v fr d H' → Qd fr d → Q v H'
theorem Rel.frok {g : Gd} {Av B : Addr → Prop} {gh : V → D → Prop} {H0 H : Hp} {o : Nat → Addr} {σ : L2.St} {st : Sx} (F : FrOk g Av H0) (R : Rel g Av B gh H0 o σ st H) : FrOk g (Avo Av B o st) H :=
  ⟨fun a h => Avo.ta F h, fun a h => R.tracked F h⟩
mutual
/-- no lists or dicts within -/
def D.imm : D → Bool
  | .lst _ => false
  | .dK _ => false
  | .dT _ => false
  | .tup xs => D.immAll xs
  | .obj _ fs => D.immF fs
  | _ => true
def D.immAll : List D → Bool
  | [] => true
  | x :: xs => x.imm && D.immAll xs
def D.immF : List (Str × D) → Bool
  | [] => true
  | (_, x) :: xs => x.imm && D.immF xs
end
mutual
theorem DR.imm {Av Av' : Addr → Prop} {H : Hp} (h : ∀ a, Av' a → ¬ Av a → ∃ u, H a = some u ∧ Mt u) : ∀ {v : V} {d : D}, DR Av H v d → d.imm = true → DR Av' H v d
  | _, _, .non, _ => .non
  | _, _, .bl b, _ => .bl b
  | _, _, .int i, _ => .int i
  | _, _, .str x, _ => .str x
  | _, _, .ty n, _ => .ty n
  | _, _, .rf a, _ => .rf a
  | _, _, .tup n e r, i => .tup (fun z => by obtain ⟨u, q, m⟩ := h _ z n; rw [e] at q; cases q; exact m) e (DRs.imm h r (by simpa [D.imm] using i))
  | _, _, .lst n e r, i => by simp [D.imm] at i
  | _, _, .dK n e r, i => by simp [D.imm] at i
  | _, _, .dT n e r, i => by simp [D.imm] at i
  | _, _, .obj n e r, i => .obj (fun z => by obtain ⟨u, q, m⟩ := h _ z n; rw [e] at q; cases q; exact m) e (DRf.imm h r (by simpa [D.imm] using i))
theorem DRs.imm {Av Av' : Addr → Prop} {H : Hp} (h : ∀ a, Av' a → ¬ Av a → ∃ u, H a = some u ∧ Mt u) : ∀ {v : List V} {d : List D}, DRs Av H v d → D.immAll d = true → DRs Av' H v d
  | _, _, .nil, _ => .nil
  | _, _, .cons q r, i => by
    simp only [D.immAll, Bool.and_eq_true] at i
    exact .cons (DR.imm h q i.1) (DRs.imm h r i.2)
theorem DRf.imm {Av Av' : Addr → Prop} {H : Hp} (h : ∀ a, Av' a → ¬ Av a → ∃ u, H a = some u ∧ Mt u) : ∀ {v : List (Str × V)} {d : List (Str × D)}, DRf Av H v d → D.immF d = true → DRf Av' H v d
  | _, _, .nil, _ => .nil
  | _, _, .cons q r, i => by
    simp only [D.immF, Bool.and_eq_true] at i
    exact .cons (DR.imm h q i.1) (DRf.imm h r i.2)
end
theorem Rdv.weak {Avs Av : Addr → Prop} {H : Hp} {v : V} {d : D} (s : ∀ a, Av a → Avs a) (h : Rdv Avs Av H v d) : DR Av H v d := by
  have m : Mv Avs Av H H := ⟨fun a o n e => ⟨fun z => n (s a z), e⟩⟩
  rcases h with h | ⟨p, vs, ds, rfl, rfl, n, e, r⟩
  · exact h.mv m
  · exact r.dr n e s
theorem Rdvs.weak {Avs Av : Addr → Prop} {H : Hp} (s : ∀ a, Av a → Avs a) : ∀ {vs : List V} {ds : List D}, Rdvs Avs Av H vs ds → DRs Av H vs ds
  | _, _, .nil => .nil
  | _, _, .cons h r => .cons (h.weak s) (r.weak s)
section
variable {g : Gd} {X : Cx} {e : Expr} {es : List Expr} {wa : WPA} {w : WP} {n : Nat} {SP : List D → RQ → Prop}
theorem we_call (ha : WA g X es wa) (hc : ∀ t, PA X es t → PE X e (tCall (spOf g n SP) [] E0 t)) : WE g X e (fun st Q => wa st fun ds => ds.length = n ∧ SP ds Q) := by
  obtain ⟨t, p, q⟩ := ha
  refine ⟨_, hc t p, fun Av B gh H0 o σ st H Q Qd hg F R hw hk => ?_⟩
  refine q Av B gh H0 o σ st H _ _ hg F R hw fun ds vs H1 k1 r1 hd => ?_
  refine ⟨by simpa [r1.length] using hd.1, Avo Av B o st, ds, Qd, k1.2, (R.mono F k1).frok F, by simpa using r1, hd.2, fun fr d v H' k r hq => ?_⟩
  exact hk fr d v H' (k1.trans k) (r.back R.kp.2 k1) hq
/-- own lists are lent to the def: what it gives holds no list -/
theorem we_lend (ha : WAR g X es wa) (hc : ∀ t, PA X es t → PE X e (tCall (spOf g n SP) [] E0 t)) : WE g X e (fun st Q => wa st fun ds => ds.length = n ∧ SP ds fun _ d => d.imm = true ∧ Q false d) := by
  obtain ⟨t, p, q⟩ := ha
  refine ⟨_, hc t p, fun Av B gh H0 o σ st H Q Qd hg F R hw hk => ?_⟩
  refine q Av B gh H0 o σ st H _ _ hg F R hw fun ds vs H1 k1 r1 hd => ?_
  have R1 := R.mono F k1
  have r2 := r1.weak (fun a h => Or.inl h)
  refine ⟨by simpa [r2.length] using hd.1, fun a => Av a ∨ B a, ds, _, k1.2, ⟨fun a h => .inl (F.ta a h), fun a h => R1.tracked F (.inl h)⟩, by simpa using r2, hd.2, fun fr d v H' k r hq => ?_⟩
  have R2 := R1.mono F k
  refine hk false d v H' (k1.trans k) (.old (DR.imm (fun a z nz => ?_) r.dr hq.1)) hq.2
  rcases z with z | ⟨i, ds', e1, e2⟩
  · exact absurd z nz
  · obtain ⟨_, _, _, vs, e3, q⟩ := R2.ow i ds' e1
    rw [e2] at e3; exact ⟨vs, e3, q.mt⟩
/-! ### fields, methods -/
theorem DRf.look {Av : Addr → Prop} {H : Hp} {f : Str} : ∀ {fv : List (Str × V)} {fs : List (Str × D)}, DRf Av H fv fs → (∀ d, fs.lookup f = some d → ∃ v, fv.lookup f = some v ∧ DR Av H v d) ∧ (fs.lookup f = none → fv.lookup f = none)
  | _, _, .nil => ⟨fun d h => by simp at h, fun _ => rfl⟩
  | _, _, .cons (f := f') (v := v) (d := d') h r => by
    obtain ⟨a, b⟩ := r.look (f := f)
    simp only [List.lookup_cons]
    cases z : f == f' with
    | true => exact ⟨fun d e => ⟨v, rfl, by cases e; exact h⟩, fun e => by cases e⟩
    | false => exact ⟨fun d e => a d e, fun e => b e⟩
def mFld (f : Str) (C : Addr) : D → RQ → Prop
  | .obj C' fs, Q => C' = C ∧ ∃ d, fs.lookup f = some d ∧ Q false d
  | _, _ => False
theorem we_fld {f : Str} {C : Addr} {pos : Pos} (he : WR g X e w) (c : Cls X.K C) (n : NoAttr X.K C f) (hb : attributeBase e f X.env (eval e X.env) = eval e X.env := by rfl) : WE g X (.Attribute e f pos) (fun st Q => w st fun _ d => mFld f C d Q) := by
  obtain ⟨t, p, q⟩ := he
  refine ⟨_, pe_fld p hb, fun Av B gh H0 o σ st H Q Qd hg F R hw hk => ?_⟩
  refine q Av B gh H0 o σ st H _ _ hg F R hw fun fr d v H1 k1 r1 hd => ?_
  cases d <;> simp only [mFld] at hd
  case obj C' fs =>
    obtain ⟨rfl, d, e1, e2⟩ := hd
    have z := r1.dr (by simp)
    cases z with
    | obj na ea rf =>
      obtain ⟨v', l, r⟩ := (rf.look (f := f)).1 d e1
      exact ⟨_, _, _, _, v', rfl, ea, c, n, l, hk false d v' H1 k1 (.old r) e2⟩
/-- o.m(..) -/
theorem we_meth {o' : Expr} {m : Str} {C : Addr} (ho : WE g X o' w) (ha : WA g X es wa) (hc : ∀ ta t, PE X o' ta → PA X es t → PE X e (tMeth C m (spOf g n SP) [] E0 ta t)) :
    WE g X e (fun st Q => w st fun _ s => ∃ fs, s = .obj C fs ∧ fs.lookup m = none ∧ wa st fun ds => ds.length + 1 = n ∧ SP (s :: ds) Q) := by
  obtain ⟨ta, pa, qa⟩ := ho
  obtain ⟨t, p, q⟩ := ha
  refine ⟨_, hc ta t pa p, fun Av B gh H0 o σ st H Q Qd hg F R hw hk => ?_⟩
  refine qa Av B gh H0 o σ st H _ _ hg F R hw fun fr s v H1 k1 r1 hd => ?_
  obtain ⟨fs, rfl, l, hd⟩ := hd
  have z := r1.dr
  cases z with
  | obj na ea rf =>
    refine ⟨_, _, _, rfl, ea, (rf.look (f := m)).2 l, ?_⟩
    refine q Av B gh H0 o σ st H1 _ _ hg F (R.mono F k1) hd fun ds vs H2 k2 r2 hd2 => ?_
    have R2 := (R.mono F k1).mono F k2
    refine ⟨by simpa [r2.length] using hd2.1, Avo Av B o st, _ :: ds, Qd, k2.2, R2.frok F, .cons (r1.dr.mv (Mv.avo F k2)) (by simpa using r2), hd2.2, fun fr d v H' k r hq => ?_⟩
    exact hk fr d v H' ((k1.trans k2).trans k) (r.back R.kp.2 (k1.trans k2)) hq
/-- a new object -/
theorem we_make {C : Addr} (ha : WAR g X es wa) (sp : Sp) (m : List D → RQ → Prop) (hc : ∀ t, PA X es t → PE X e (tMake C sp [] E0 t))
    (hs : ∀ (Avs Av : Addr → Prop) (H : Hp) (vs : List V) (ds : List D) (Q : VK) (Qd : RQ), Fit g Avs Av H → Rdvs Avs Av H vs ds → m ds Qd → (∀ fr d v H', Kp g H H' → Res Avs H v fr d H' → Qd fr d → Q v H') →
      ∀ x dx, H x = none → H dx = none → dx ≠ x → sp (.ref x :: (vs ++ [])) (upd (upd H dx (.own x)) x (.ins C dx [])) (fun v H2 => v = .non ∧ Q (.ref x) H2) E0) :
    WE g X e (fun st Q => wa st fun ds => m ds Q) := by
  obtain ⟨t, p, q⟩ := ha
  refine ⟨_, hc t p, fun Av B gh H0 o σ st H Q Qd hg F R hw hk => ?_⟩
  refine q Av B gh H0 o σ st H _ _ hg F R hw fun ds vs H1 k1 r1 hd => ?_
  exact hs _ _ H1 vs ds Q Qd ((R.mono F k1).fit F) r1 hd fun fr d v H' k r hq => hk fr d v H' (k1.trans k) (r.back R.kp.2 k1) hq
/-! ### built-ins -/
abbrev SemC := List D → RQ → Prop
def SC (g : Gd) (r : List V → Hp → VK → Prop) (m : SemC) : Prop := ∀ (Avs Av : Addr → Prop) (H : Hp) (ds : List D) (vs : List V) (Q : VK) (Qd : RQ), Fit g Avs Av H → Rdvs Avs Av H vs ds → m ds Qd →
  (∀ fr d v H', Kp g H H' → Res Avs H v fr d H' → Qd fr d → Q v H') → r vs H Q
theorem we_cb {r : List V → Hp → VK → Prop} {m : SemC} (ha : WAR g X es wa) (hs : SC g r m) (hc : ∀ t, PA X es t → PE X e (tCB r t)) : WE g X e (fun st Q => wa st fun ds => m ds Q) := by
  obtain ⟨t, p, q⟩ := ha
  refine ⟨_, hc t p, fun Av B gh H0 o σ st H Q Qd hg F R hw hk => ?_⟩
  refine q Av B gh H0 o σ st H _ _ hg F R hw fun ds vs H1 k1 r1 hd => ?_
  exact hs _ _ H1 ds vs Q Qd ((R.mono F k1).fit F) r1 hd fun fr d v H' k r hq => hk fr d v H' (k1.trans k) (r.back R.kp.2 k1) hq
end
theorem Rdvs.one {Avs Av : Addr → Prop} {H : Hp} {vs : List V} {d : D} (h : Rdvs Avs Av H vs [d]) : ∃ v, vs = [v] ∧ Rdv Avs Av H v d := by
  cases h with
  | cons a r => cases r; exact ⟨_, rfl, a⟩
theorem Rdvs.two {Avs Av : Addr → Prop} {H : Hp} {vs : List V} {d e : D} (h : Rdvs Avs Av H vs [d, e]) : ∃ v u, vs = [v, u] ∧ Rdv Avs Av H v d ∧ Rdv Avs Av H u e := by
  cases h with
  | cons a r => obtain ⟨u, rfl, b⟩ := r.one; exact ⟨_, _, rfl, a, b⟩
def mLen : SemC
  | [.lst xs], Q => Q false (.int xs.length)
  | [.tup xs], Q => Q false (.int xs.length)
  | _, _ => False
def mList : SemC
  | [.lst xs], Q => Q true (.lst xs)
  | [.tup xs], Q => Q true (.lst xs)
  | _, _ => False
def mTuple : SemC
  | [.lst xs], Q => Q false (.tup xs)
  | [.tup xs], Q => Q false (.tup xs)
  | _, _ => False
def mInt1 : SemC
  | [.int i], Q => Q false (.int i)
  | [.bl b], Q => Q false (.int (if b then 1 else 0))
  | _, _ => False
def mAbs : SemC
  | [.int i], Q => Q false (.int (if i < 0 then -i else i))
  | _, _ => False
def mMin2 : SemC
  | [.int i, .int j], Q => Q false (.int (if j < i then j else i))
  | _, _ => False
def mAll : SemC := fun ds Q => ∃ bs : List Bool, ds = [.lst (bs.map D.bl)] ∧ Q false (.bl (bs.all id))
def mAny : SemC := fun ds Q => ∃ bs : List Bool, ds = [.lst (bs.map D.bl)] ∧ Q false (.bl (bs.any id))
def mSum : SemC := fun ds Q => ∃ ns : List Int, ds = [.lst (ns.map D.int)] ∧ Q false (.int ns.sum)
def mMax : SemC := fun ds Q => ∃ ns : List Int, ds = [.lst (ns.map D.int)] ∧ 0 < ns.length ∧ ∀ m, m ∈ ns → (∀ y, y ∈ ns → y ≤ m) → Q false (.int m)
def mSorted : SemC := fun ds Q => ∃ ns : List Int, ds = [.lst (ns.map D.int)] ∧ ∀ ms : List Int, ms.Perm ns → ms.Pairwise (· ≤ ·) → Q true (.lst (ms.map D.int))
def mRepr : SemC
  | [d], Q => d.shw ∧ Q false (.str d.shown)
  | _, _ => False
theorem DRs.bls {Av : Addr → Prop} {H : Hp} : ∀ {bs : List Bool} {vs : List V}, DRs Av H vs (bs.map D.bl) → vs = bs.map V.bl
  | [], _, .nil => rfl
  | b :: bs, _, .cons h r => by cases h; rw [r.bls]; rfl
theorem DRs.ints {Av : Addr → Prop} {H : Hp} : ∀ {bs : List Int} {vs : List V}, DRs Av H vs (bs.map D.int) → vs = bs.map V.int
  | [], _, .nil => rfl
  | b :: bs, _, .cons h r => by cases h; rw [r.ints]; rfl
theorem drs_ints {Av : Addr → Prop} {H : Hp} : ∀ (ns : List Int), DRs Av H (ns.map V.int) (ns.map D.int)
  | [] => .nil
  | n :: ns => .cons (.int n) (drs_ints ns)
section
variable {g : Gd} {X : Cx}
theorem sc_len : SC g (fun xs H Q => ∃ p ys, xs = [.ref p] ∧ (SqL X.K H p ys ∨ SqT X.K H p ys) ∧ Q (.int ys.length) H) mLen := by
  intro Avs Av H ds vs Q Qd F r hm hk
  unfold mLen at hm
  split at hm
  · obtain ⟨v, rfl, y⟩ := r.one
    obtain ⟨p, ws, rfl, e, q⟩ := y.lst
    exact ⟨p, ws, rfl, .inl (.inl (.inl e)), by rw [q.length]; exact hk _ _ _ H (Kp.refl F.gg) (.old (.int _)) hm⟩
  · obtain ⟨v, rfl, y⟩ := r.one
    obtain ⟨p, ws, rfl, e, q, _⟩ := y.tup
    exact ⟨p, ws, rfl, .inr (.inl (.inl e)), by rw [q.length]; exact hk _ _ _ H (Kp.refl F.gg) (.old (.int _)) hm⟩
  · exact hm.elim
theorem sc_list : SC g (fun xs H Q => ∃ p ys, xs = [.ref p] ∧ (SqL X.K H p ys ∨ SqT X.K H p ys) ∧ ∀ l, H l = none → Q (.ref l) (upd H l (.lst ys))) mList := by
  intro Avs Av H ds vs Q Qd F r hm hk
  unfold mList at hm
  split at hm
  · obtain ⟨v, rfl, y⟩ := r.one
    obtain ⟨p, ws, rfl, e, q⟩ := y.lst
    exact ⟨p, ws, rfl, .inl (.inl (.inl e)), fun l hl => let ⟨k, z⟩ := F.lst q hl; hk _ _ _ _ k z hm⟩
  · obtain ⟨v, rfl, y⟩ := r.one
    obtain ⟨p, ws, rfl, e, q, _⟩ := y.tup
    exact ⟨p, ws, rfl, .inr (.inl (.inl e)), fun l hl => let ⟨k, z⟩ := F.lst q hl; hk _ _ _ _ k z hm⟩
  · exact hm.elim
theorem sc_tuple : SC g (fun xs H Q => ∃ p ys, xs = [.ref p] ∧ ((SqL X.K H p ys ∧ ∀ l, H l = none → Q (.ref l) (upd H l (.tup ys))) ∨ (SqT X.K H p ys ∧ Q (.ref p) H))) mTuple := by
  intro Avs Av H ds vs Q Qd F r hm hk
  unfold mTuple at hm
  split at hm
  · obtain ⟨v, rfl, y⟩ := r.one
    obtain ⟨p, ws, rfl, e, q⟩ := y.lst
    exact ⟨p, ws, rfl, .inl ⟨.inl (.inl e), fun l hl => let ⟨k, z⟩ := F.tup q hl; hk _ _ _ _ k z hm⟩⟩
  · obtain ⟨v, rfl, y⟩ := r.one
    obtain ⟨p, ws, rfl, e, q, z⟩ := y.tup
    exact ⟨p, ws, rfl, .inr ⟨.inl (.inl e), hk _ _ _ _ (Kp.refl F.gg) (.old z) hm⟩⟩
  · exact hm.elim
theorem sc_int1 : SC g (fun xs H Q => (∃ i, xs = [.int i] ∧ Q (.int i) H) ∨ ∃ k, xs = [.bl k] ∧ Q (.int (if k then 1 else 0)) H) mInt1 := by
  intro Avs Av H ds vs Q Qd F r hm hk
  unfold mInt1 at hm
  split at hm
  · obtain ⟨v, rfl, y⟩ := r.one
    cases y.int
    exact .inl ⟨_, rfl, hk _ _ _ H (Kp.refl F.gg) (.old (.int _)) hm⟩
  · obtain ⟨v, rfl, y⟩ := r.one
    cases y.bl
    exact .inr ⟨_, rfl, hk _ _ _ H (Kp.refl F.gg) (.old (.int _)) hm⟩
  · exact hm.elim
theorem sc_abs : SC g (fun xs H Q => ∃ i, xs = [.int i] ∧ Q (.int (if i < 0 then -i else i)) H) mAbs := by
  intro Avs Av H ds vs Q Qd F r hm hk
  unfold mAbs at hm
  split at hm
  · obtain ⟨v, rfl, y⟩ := r.one
    cases y.int
    exact ⟨_, rfl, hk _ _ _ H (Kp.refl F.gg) (.old (.int _)) hm⟩
  · exact hm.elim
theorem sc_min2 : SC g (fun xs H Q => ∃ i j, xs = [.int i, .int j] ∧ Q (.int (if j < i then j else i)) H) mMin2 := by
  intro Avs Av H ds vs Q Qd F r hm hk
  unfold mMin2 at hm
  split at hm
  · obtain ⟨v, u, rfl, y, y2⟩ := r.two
    cases y.int; cases y2.int
    exact ⟨_, _, rfl, hk _ _ _ H (Kp.refl F.gg) (.old (.int _)) hm⟩
  · exact hm.elim
theorem sc_all : SC g (rAll X.K) mAll := by
  rintro Avs Av H ds vs Q Qd F r ⟨bs, rfl, hm⟩ hk
  obtain ⟨v, rfl, y⟩ := r.one
  obtain ⟨p, ws, rfl, e, q⟩ := y.lst
  cases q.bls
  exact ⟨p, bs, rfl, .inl (.inl e), hk _ _ _ H (Kp.refl F.gg) (.old (.bl _)) hm⟩
theorem sc_any : SC g (rAny X.K) mAny := by
  rintro Avs Av H ds vs Q Qd F r ⟨bs, rfl, hm⟩ hk
  obtain ⟨v, rfl, y⟩ := r.one
  obtain ⟨p, ws, rfl, e, q⟩ := y.lst
  cases q.bls
  exact ⟨p, bs, rfl, .inl (.inl e), hk _ _ _ H (Kp.refl F.gg) (.old (.bl _)) hm⟩
theorem sc_sum : SC g (rSum X.K) mSum := by
  rintro Avs Av H ds vs Q Qd F r ⟨bs, rfl, hm⟩ hk
  obtain ⟨v, rfl, y⟩ := r.one
  obtain ⟨p, ws, rfl, e, q⟩ := y.lst
  cases q.ints
  exact ⟨p, bs, rfl, .inl (.inl e), hk _ _ _ H (Kp.refl F.gg) (.old (.int _)) hm⟩
theorem sc_max : SC g (rMax X.K) mMax := by
  rintro Avs Av H ds vs Q Qd F r ⟨bs, rfl, h0, hm⟩ hk
  obtain ⟨v, rfl, y⟩ := r.one
  obtain ⟨p, ws, rfl, e, q⟩ := y.lst
  cases q.ints
  exact ⟨p, bs, rfl, .inl (.inl e), h0, fun m h1 h2 => hk _ _ _ H (Kp.refl F.gg) (.old (.int _)) (hm m h1 h2)⟩
theorem sc_sorted : SC g (rSortedI X.K) mSorted := by
  rintro Avs Av H ds vs Q Qd F r ⟨bs, rfl, hm⟩ hk
  obtain ⟨v, rfl, y⟩ := r.one
  obtain ⟨p, ws, rfl, e, q⟩ := y.lst
  cases q.ints
  exact ⟨p, bs, rfl, .inl (.inl e), fun ns' p' h1 h2 hp => let ⟨k, z⟩ := F.lst (drs_ints ns') hp; hk _ _ _ _ k z (hm ns' h1 h2)⟩
theorem sc_repr : SC g (rRepr X.K) mRepr := by
  intro Avs Av H ds vs Q Qd F r hm hk
  unfold mRepr at hm
  split at hm
  · obtain ⟨v, rfl, y⟩ := r.one
    obtain ⟨⟨a, b, c⟩, hm⟩ := hm
    obtain ⟨e1, e2, e3, e4, e5, e6⟩ := tiny_lay _ a
    exact ⟨v, _, rfl, y.dp a, e3, e4, by rw [e6]; exact c, shw_len ⟨a, b, c⟩, hk _ _ _ H (Kp.refl F.gg) (.old (.str _)) hm⟩
  · exact hm.elim
end
end DW
namespace DW
open PySem PySem.Spec PyProof.Rows L2

/-! ### tests -/
abbrev WPT := Sx → (Bool → Prop) → Prop
def WT (g : Gd) (X : Cx) (e : Expr) (w : WPT) : Prop := ∃ t, PT X e t ∧ ∀ Av B gh H0 o σ st H Q Qd, g.G H0 → FrOk g Av H0 → Rel g Av B gh H0 o σ st H → w st Qd →
  (∀ b H', Kp g H H' → Qd b → Q b H') → t σ H Q
/-- .. within and, or -/
def WW (g : Gd) (X : Cx) (e : Expr) (w : WPT) : Prop := ∃ t, PW X e t ∧ ∀ Av B gh H0 o σ st H Q Qd, g.G H0 → FrOk g Av H0 → Rel g Av B gh H0 o σ st H → w st Qd →
  (∀ b H', Kp g H H' → Qd b → Q b H') → t σ H Q
section
variable {g : Gd} {X : Cx} {e a b : Expr} {w wa wb wc : WP} {u v : WPT} {pos : Pos} {rest : List Expr}
theorem wt_val (h : WE g X e w) (he : ∀ whole, isTrue e X.env whole = (do let v ← whole; standAt e.pos; holding [v] (truthy v)) := by intro _; rfl) : WT g X e (fun st Q => w st fun _ d => ∃ c, d = .bl c ∧ Q c) := by
  obtain ⟨t, p, q⟩ := h
  refine ⟨_, pt_val p he, fun Av B gh H0 o σ st H Q Qd hg F R hw hk => ?_⟩
  refine q Av B gh H0 o σ st H _ _ hg F R hw fun fr d v H1 k1 r1 hd => ?_
  obtain ⟨c, rfl, hd⟩ := hd
  have ev : v = .bl c := by cases r1.dr; rfl
  exact ⟨c, ev, hk c H1 k1 hd⟩
/-- a comparison -/
theorem wt_cmp {op : CmpOp} {m : Sem2} {r : R2} (ho : OpR X (compareOp op) r) (hs : S2 g r m) (ha : WR g X a wa) (hb : WR g X b wb) (hm : behindInMarks op b = false) : WT g X (.Compare a [op] [b] pos) (fun st Q => wa st fun _ x => wb st fun _ y => m x y fun _ z => ∃ c, z = .bl c ∧ Q c) := by
  obtain ⟨t, p, q⟩ := ha
  obtain ⟨t2, p2, q2⟩ := hb
  refine ⟨_, pt_cmpR ho p p2 hm, fun Av B gh H0 o σ st H Q Qd hg F R hw hk => ?_⟩
  refine q Av B gh H0 o σ st H _ _ hg F R hw fun fr d v H1 k1 r1 hw1 => ?_
  refine q2 Av B gh H0 o σ st H1 _ _ hg F (R.mono F k1) hw1 fun fr2 d2 v2 H2 k2 r2 hd => ?_
  refine hs _ _ H2 d d2 v v2 _ _ (((R.mono F k1).mono F k2).fit F) (r1.mono (fun a h => Avo.ta F h) (fun a h => .inl (F.ta a h)) k2) r2 hd fun fr d v H' k3 r3 hq => ?_
  obtain ⟨c, rfl, hq⟩ := hq
  have ev : v = .bl c := by cases r3.dr; rfl
  exact ⟨c, ev, hk c H' ((k1.trans k2).trans k3) hq⟩
theorem ww_t (h : WW g X e u) : WT g X e u := let ⟨t, p, q⟩ := h; ⟨t, p.pt, q⟩
theorem wt_not (h : WT g X a u) : WT g X (.UnaryOp .Not a pos) (fun st Q => u st fun c => Q (!c)) := by
  obtain ⟨t, p, q⟩ := h
  refine ⟨_, pt_not p, fun Av B gh H0 o σ st H Q Qd hg F R hw hk => ?_⟩
  exact q Av B gh H0 o σ st H _ _ hg F R hw fun c H1 k1 hd => hk (!c) H1 k1 hd
theorem ww_and1 (h : WT g X a u) : WW g X (.BoolOp .And [a] pos) u := let ⟨t, p, q⟩ := h; ⟨t, pw_and1 p, q⟩
theorem ww_or1 (h : WT g X a u) : WW g X (.BoolOp .Or [a] pos) u := let ⟨t, p, q⟩ := h; ⟨t, pw_or1 p, q⟩
theorem ww_and (h : WT g X a u) (hr : WW g X (.BoolOp .And (b :: rest) pos) v) : WW g X (.BoolOp .And (a :: b :: rest) pos) (fun st Q => u st fun c => if c = true then v st Q else Q false) := by
  obtain ⟨t, p, q⟩ := h
  obtain ⟨t2, p2, q2⟩ := hr
  refine ⟨_, pw_and p p2, fun Av B gh H0 o σ st H Q Qd hg F R hw hk => ?_⟩
  refine q Av B gh H0 o σ st H _ _ hg F R hw fun c H1 k1 hd => ?_
  cases c with
  | true => exact q2 Av B gh H0 o σ st H1 _ _ hg F (R.mono F k1) hd fun c H2 k2 hd2 => hk c H2 (k1.trans k2) hd2
  | false => exact hk false H1 k1 hd
theorem ww_or (h : WT g X a u) (hr : WW g X (.BoolOp .Or (b :: rest) pos) v) : WW g X (.BoolOp .Or (a :: b :: rest) pos) (fun st Q => u st fun c => if c = true then Q true else v st Q) := by
  obtain ⟨t, p, q⟩ := h
  obtain ⟨t2, p2, q2⟩ := hr
  refine ⟨_, pw_or p p2, fun Av B gh H0 o σ st H Q Qd hg F R hw hk => ?_⟩
  refine q Av B gh H0 o σ st H _ _ hg F R hw fun c H1 k1 hd => ?_
  cases c with
  | false => exact q2 Av B gh H0 o σ st H1 _ _ hg F (R.mono F k1) hd fun c H2 k2 hd2 => hk c H2 (k1.trans k2) hd2
  | true => exact hk true H1 k1 hd
/-! .. as values -/
theorem we_one {op : BoolOp} (h : WE g X a w) : WE g X (.BoolOp op [a] pos) w := let ⟨t, p, q⟩ := h; ⟨t, pe_one p, q⟩
theorem we_and (h : WE g X a wa) (hr : WE g X (.BoolOp .And (b :: rest) pos) wb) : WE g X (.BoolOp .And (a :: b :: rest) pos) (fun st Q => wa st fun _ x => ∃ c, x = .bl c ∧ if c = true then wb st Q else Q false (.bl false)) := by
  obtain ⟨t, p, q⟩ := h
  obtain ⟨t2, p2, q2⟩ := hr
  refine ⟨_, pe_and p p2, fun Av B gh H0 o σ st H Q Qd hg F R hw hk => ?_⟩
  refine q Av B gh H0 o σ st H _ _ hg F R hw fun fr d v H1 k1 r1 hd => ?_
  obtain ⟨c, rfl, hd⟩ := hd
  have ev : v = .bl c := by cases r1.dr; rfl
  refine ⟨c, ev, ?_⟩
  cases c with
  | true => exact q2 Av B gh H0 o σ st H1 _ _ hg F (R.mono F k1) hd fun fr d v H2 k2 r2 hd2 => hk fr d v H2 (k1.trans k2) (r2.back R.kp.2 k1) hd2
  | false => exact hk false _ _ H1 k1 (.old (.bl false)) hd
theorem we_or (h : WE g X a wa) (hr : WE g X (.BoolOp .Or (b :: rest) pos) wb) : WE g X (.BoolOp .Or (a :: b :: rest) pos) (fun st Q => wa st fun _ x => ∃ c, x = .bl c ∧ if c = true then Q false (.bl true) else wb st Q) := by
  obtain ⟨t, p, q⟩ := h
  obtain ⟨t2, p2, q2⟩ := hr
  refine ⟨_, pe_or p p2, fun Av B gh H0 o σ st H Q Qd hg F R hw hk => ?_⟩
  refine q Av B gh H0 o σ st H _ _ hg F R hw fun fr d v H1 k1 r1 hd => ?_
  obtain ⟨c, rfl, hd⟩ := hd
  have ev : v = .bl c := by cases r1.dr; rfl
  refine ⟨c, ev, ?_⟩
  cases c with
  | false => exact q2 Av B gh H0 o σ st H1 _ _ hg F (R.mono F k1) hd fun fr d v H2 k2 r2 hd2 => hk fr d v H2 (k1.trans k2) (r2.back R.kp.2 k1) hd2
  | true => exact hk false _ _ H1 k1 (.old (.bl true)) hd
theorem we_not (h : WE g X a wa) : WE g X (.UnaryOp .Not a pos) (fun st Q => wa st fun _ x => ∃ c, x = .bl c ∧ Q false (.bl (!c))) := by
  obtain ⟨t, p, q⟩ := h
  refine ⟨_, pe_not p, fun Av B gh H0 o σ st H Q Qd hg F R hw hk => ?_⟩
  refine q Av B gh H0 o σ st H _ _ hg F R hw fun fr d v H1 k1 r1 hd => ?_
  obtain ⟨c, rfl, hd⟩ := hd
  have ev : v = .bl c := by cases r1.dr; rfl
  exact ⟨c, ev, hk false _ _ H1 k1 (.old (.bl _)) hd⟩
theorem we_ifE {c : Expr} (h : WT g X c u) (ha : WE g X a wa) (hb : WE g X b wb) : WE g X (.IfExp c a b pos) (fun st Q => u st fun k => if k = true then wa st Q else wb st Q) := by
  obtain ⟨t, p, q⟩ := h
  obtain ⟨t1, p1, q1⟩ := ha
  obtain ⟨t2, p2, q2⟩ := hb
  refine ⟨_, pe_ifExp p p1 p2, fun Av B gh H0 o σ st H Q Qd hg F R hw hk => ?_⟩
  refine q Av B gh H0 o σ st H _ _ hg F R hw fun c H1 k1 hd => ?_
  cases c with
  | true => exact q1 Av B gh H0 o σ st H1 _ _ hg F (R.mono F k1) hd fun fr d v H2 k2 r2 hd2 => hk fr d v H2 (k1.trans k2) (r2.back R.kp.2 k1) hd2
  | false => exact q2 Av B gh H0 o σ st H1 _ _ hg F (R.mono F k1) hd fun fr d v H2 k2 r2 hd2 => hk fr d v H2 (k1.trans k2) (r2.back R.kp.2 k1) hd2
end

/-! ### slices -/
abbrev WPO := Sx → (Option Int → Prop) → Prop
def WO (g : Gd) (X : Cx) (e : Option Expr) (w : WPO) : Prop := ∃ t, PO X e t ∧ ∀ Av B gh H0 o σ st H Q Qd, g.G H0 → FrOk g Av H0 → Rel g Av B gh H0 o σ st H → w st Qd →
  (∀ b H', Kp g H H' → Qd b → Q b H') → t σ H Q
def cutD (xs : List D) (lo hi : Option Int) : List D := (xs.drop (HT.sIx xs.length 0 lo)).take (HT.sIx xs.length xs.length hi - HT.sIx xs.length 0 lo)
theorem DRs.cut {Av : Addr → Prop} {H : Hp} {vs : List V} {ds : List D} (r : DRs Av H vs ds) (lo hi : Option Int) : DRs Av H (cutV vs lo hi) (cutD ds lo hi) := by
  unfold cutV cutD
  rw [r.length]
  exact (r.drop _).take _
def mSl : D → Option Int → Option Int → RQ → Prop
  | .lst xs, lo, hi, Q => Q true (.lst (cutD xs lo hi))
  | .tup xs, lo, hi, Q => Q false (.tup (cutD xs lo hi))
  | _, _, _, _ => False
section
variable {g : Gd} {X : Cx} {e a : Expr} {w wa : WP} {lo hi : Option Expr} {wl wh : WPO} {pos p2 : Pos}
theorem wo_none : WO g X none (fun _ Q => Q none) := ⟨_, po_none, fun Av B gh H0 o σ st H Q Qd hg F R hw hk => hk none H (Kp.refl R.kp.2) hw⟩
theorem wo_some (h : WE g X e w) : WO g X (some e) (fun st Q => w st fun _ d => ∃ i, d = .int i ∧ Q (some i)) := by
  obtain ⟨t, p, q⟩ := h
  refine ⟨_, po_some p, fun Av B gh H0 o σ st H Q Qd hg F R hw hk => ?_⟩
  refine q Av B gh H0 o σ st H _ _ hg F R hw fun fr d v H1 k1 r1 hd => ?_
  obtain ⟨c, rfl, hd⟩ := hd
  have ev : v = .int c := by cases r1.dr; rfl
  exact ⟨c, ev, hk _ H1 k1 hd⟩
theorem we_slice (ha : WR g X a wa) (hl : WO g X lo wl) (hh : WO g X hi wh) : WE g X (.Subscript a (.Slice lo hi none p2) pos) (fun st Q => wa st fun _ x => wl st fun l => wh st fun h => mSl x l h Q) := by
  obtain ⟨t, p, q⟩ := ha
  obtain ⟨t1, p1, q1⟩ := hl
  obtain ⟨t2, p2, q2⟩ := hh
  refine ⟨_, pe_slice (sl_list.or sl_tupA) p p1 p2, fun Av B gh H0 o σ st H Q Qd hg F R hw hk => ?_⟩
  have T1 : ∀ a, g.T a → Avo Av B o st a := fun a h => Avo.ta F h
  have T2 : ∀ a, g.T a → (Av a ∨ B a) := fun a h => .inl (F.ta a h)
  refine q Av B gh H0 o σ st H _ _ hg F R hw fun fr d v H1 k1 r1 hw1 => ?_
  refine q1 Av B gh H0 o σ st H1 _ _ hg F (R.mono F k1) hw1 fun l H2 k2 hw2 => ?_
  refine q2 Av B gh H0 o σ st H2 _ _ hg F ((R.mono F k1).mono F k2) hw2 fun h H3 k3 hm => ?_
  have r3 := r1.mono T1 T2 (k2.trans k3)
  have F3 := (R.mono F ((k1.trans k2).trans k3)).fit F
  cases d <;> simp only [mSl] at hm
  case lst xs =>
    obtain ⟨p, vs, rfl, e1, rr⟩ := r3.lst
    refine .inl ⟨p, vs, rfl, .inl (.inl e1), fun u hu => ?_⟩
    obtain ⟨k, z⟩ := F3.lst (rr.cut l h) hu
    exact hk true _ _ _ (((k1.trans k2).trans k3).trans k) (z.back R.kp.2 ((k1.trans k2).trans k3)) hm
  case tup xs =>
    obtain ⟨p, vs, rfl, e1, rr, dd⟩ := r3.tup
    refine .inr ⟨p, vs, rfl, .inl (.inl e1), fun hz => ?_, fun hz u hu => ?_⟩
    · have e : cutD xs l h = xs := by
        unfold cutD
        rw [← rr.length, hz.1, hz.2, List.drop_zero, Nat.sub_zero, rr.length, List.take_length]
      rw [e] at hm
      exact hk false _ _ _ ((k1.trans k2).trans k3) (.old dd) hm
    · obtain ⟨k, z⟩ := F3.tup (rr.cut l h) hu
      exact hk false _ _ _ (((k1.trans k2).trans k3).trans k) (z.back R.kp.2 ((k1.trans k2).trans k3)) hm
end

/-! ### list(range), tuple(range) -/
def rgD (a b : Int) : List D := (List.range (b - a).toNat).map fun i => D.int (a + (i : Nat))
theorem drs_rg {Av : Addr → Prop} {H : Hp} (a b : Int) : DRs Av H (rgV a b) (rgD a b) := by
  have e1 : rgV a b = ((List.range (b - a).toNat).map fun i : Nat => a + (i : Int)).map V.int := by unfold rgV; rw [List.map_map]; rfl
  have e2 : rgD a b = ((List.range (b - a).toNat).map fun i : Nat => a + (i : Int)).map D.int := by unfold rgD; rw [List.map_map]; rfl
  rw [e1, e2]
  exact drs_ints _
section
variable {g : Gd} {X : Cx} {a b : Expr} {wa wb : WP} {p pos q pos2 : Pos}
theorem we_listRg1 (ha : WE g X a wa) (hc : X.calm = true) (hg : Gl X "list") (hm : X.mg "list" = none) (hg2 : Gl X "range") (hm2 : X.mg "range" = none)
    (na : starEach [a] X.env = (false, eval a X.env) :: starEach [] X.env := by rfl) (nb : starEach [.Call (.Name "range" q) [a] [] pos2] X.env = (false, eval (.Call (.Name "range" q) [a] [] pos2) X.env) :: starEach [] X.env := by rfl) :
    WE g X (.Call (.Name "list" p) [.Call (.Name "range" q) [a] [] pos2] [] pos) (fun st Q => wa st fun _ d => ∃ n, d = .int n ∧ RgOk 0 n ∧ Q true (.lst (rgD 0 n))) := by
  obtain ⟨t, p1, q1⟩ := ha
  refine ⟨_, pe_listRg hc hg hm (prg_1 hg2 hm2 p1 na) nb, fun Av B gh H0 o σ st H Q Qd hg F R hw hk => ?_⟩
  refine q1 Av B gh H0 o σ st H _ _ hg F R hw fun fr d v H1 k1 r1 hd => ?_
  obtain ⟨n, rfl, ok, hd⟩ := hd
  have ev : v = .int n := by cases r1.dr; rfl
  refine ⟨n, ev, ok, fun u hu => ?_⟩
  obtain ⟨k, z⟩ := ((R.mono F k1).fit F).lst (drs_rg 0 n) hu
  exact hk true _ _ _ (k1.trans k) (z.back R.kp.2 k1) hd
theorem we_tupRg1 (ha : WE g X a wa) (hc : X.calm = true) (hg : Gl X "tuple") (hm : X.mg "tuple" = none) (hg2 : Gl X "range") (hm2 : X.mg "range" = none)
    (na : starEach [a] X.env = (false, eval a X.env) :: starEach [] X.env := by rfl) (nb : starEach [.Call (.Name "range" q) [a] [] pos2] X.env = (false, eval (.Call (.Name "range" q) [a] [] pos2) X.env) :: starEach [] X.env := by rfl) :
    WE g X (.Call (.Name "tuple" p) [.Call (.Name "range" q) [a] [] pos2] [] pos) (fun st Q => wa st fun _ d => ∃ n, d = .int n ∧ RgOk 0 n ∧ Q false (.tup (rgD 0 n))) := by
  obtain ⟨t, p1, q1⟩ := ha
  refine ⟨_, pe_tupRg hc hg hm (prg_1 hg2 hm2 p1 na) nb, fun Av B gh H0 o σ st H Q Qd hg F R hw hk => ?_⟩
  refine q1 Av B gh H0 o σ st H _ _ hg F R hw fun fr d v H1 k1 r1 hd => ?_
  obtain ⟨n, rfl, ok, hd⟩ := hd
  have ev : v = .int n := by cases r1.dr; rfl
  refine ⟨n, ev, ok, fun u hu => ?_⟩
  obtain ⟨k, z⟩ := ((R.mono F k1).fit F).tup (drs_rg 0 n) hu
  exact hk false _ _ _ (k1.trans k) (z.back R.kp.2 k1) hd
end
end DW
namespace DW
open PySem PySem.Spec PyProof.Rows L2

section
variable {g : Gd} {Av B : Addr → Prop} {gh : V → D → Prop} {H0 H H1 : Hp} {o : Nat → Addr} {σ : L2.St} {st : Sx}
theorem set_own {st : Sx} {i j : Nat} {s : Sl} {ds : Ct} (h : (st.set i s)[j]? = some (.ow ds)) : (j = i ∧ s = .ow ds ∧ i < st.length) ∨ (j ≠ i ∧ st[j]? = some (.ow ds)) := by
  by_cases e : j = i
  · subst e
    by_cases hl : j < st.length
    · rw [List.getElem?_set_self hl] at h
      exact .inl ⟨rfl, Option.some.inj h, hl⟩
    · rw [List.getElem?_eq_none (by simpa using hl)] at h; cases h
  · rw [List.getElem?_set_ne (Ne.symm e)] at h
    exact .inr ⟨e, h⟩
theorem set_val {st : Sx} {i j : Nat} {s : Sl} {d : D} (h : (st.set i s)[j]? = some (.val d)) : (j = i ∧ s = .val d ∧ i < st.length) ∨ (j ≠ i ∧ st[j]? = some (.val d)) := by
  by_cases e : j = i
  · subst e
    by_cases hl : j < st.length
    · rw [List.getElem?_set_self hl] at h
      exact .inl ⟨rfl, Option.some.inj h, hl⟩
    · rw [List.getElem?_eq_none (by simpa using hl)] at h; cases h
  · rw [List.getElem?_set_ne (Ne.symm e)] at h
    exact .inr ⟨e, h⟩
/-- a value is stored -/
theorem Rel.setVal (R : Rel g Av B gh H0 o σ st H) {v : V} {d : D} (i : Nat) (r : DR (Avo Av B o st) H v d) : Rel g Av B gh H0 o (σ.set i (some v)) (st.set i (.val d)) H := by
  have sub : ∀ a, Avo Av B o (st.set i (.val d)) a → Avo Av B o st a := by
    rintro a (h | ⟨j, ds, e1, e2⟩)
    · exact .inl h
    · rcases set_own e1 with ⟨_, z, _⟩ | ⟨_, z⟩
      · cases z
      · exact .inr ⟨j, ds, z, e2⟩
  have m : Mv (Avo Av B o st) (Avo Av B o (st.set i (.val d))) H H := ⟨fun a u n e => ⟨fun z => n (sub a z), e⟩⟩
  refine ⟨by simp [R.len], R.kp, fun j e h => ?_, fun j ds h => ?_, fun j k ds es h1 h2 he => ?_, R.bt, fun v d h => (R.gho v d h).mv m⟩
  · rcases set_val h with ⟨rfl, z, hl⟩ | ⟨ne, z⟩
    · cases z
      exact ⟨v, by rw [List.getElem?_set_self (by rw [R.len]; exact hl)], r.mv m⟩
    · obtain ⟨v', e1, r'⟩ := R.val j e z
      exact ⟨v', by rw [List.getElem?_set_ne (Ne.symm ne)]; exact e1, r'.mv m⟩
  · rcases set_own h with ⟨_, z, _⟩ | ⟨ne, z⟩
    · cases z
    · obtain ⟨e1, e2, nb, vs, e3, r'⟩ := R.ow j ds z
      exact ⟨by rw [List.getElem?_set_ne (Ne.symm ne)]; exact e1, e2, nb, vs, e3, r'.mv m⟩
  · rcases set_own h1 with ⟨_, z, _⟩ | ⟨_, z⟩
    · cases z
    · rcases set_own h2 with ⟨_, z2, _⟩ | ⟨_, z2⟩
      · cases z2
      · exact R.inj j k ds es z z2 he
/-- a slot is forgotten -/
theorem Rel.setUn (R : Rel g Av B gh H0 o σ st H) (i : Nat) (x : Option V) : Rel g Av B gh H0 o (σ.set i x) (st.set i .un) H := by
  have sub : ∀ a, Avo Av B o (st.set i .un) a → Avo Av B o st a := by
    rintro a (h | ⟨j, ds, e1, e2⟩)
    · exact .inl h
    · rcases set_own e1 with ⟨_, z, _⟩ | ⟨_, z⟩
      · cases z
      · exact .inr ⟨j, ds, z, e2⟩
  have m : Mv (Avo Av B o st) (Avo Av B o (st.set i .un)) H H := ⟨fun a u n e => ⟨fun z => n (sub a z), e⟩⟩
  refine ⟨by simp [R.len], R.kp, fun j e h => ?_, fun j ds h => ?_, fun j k ds es h1 h2 he => ?_, R.bt, fun v d h => (R.gho v d h).mv m⟩
  · rcases set_val h with ⟨rfl, z, hl⟩ | ⟨ne, z⟩
    · cases z
    · obtain ⟨v', e1, r'⟩ := R.val j e z
      exact ⟨v', by rw [List.getElem?_set_ne (Ne.symm ne)]; exact e1, r'.mv m⟩
  · rcases set_own h with ⟨_, z, _⟩ | ⟨ne, z⟩
    · cases z
    · obtain ⟨e1, e2, nb, vs, e3, r'⟩ := R.ow j ds z
      exact ⟨by rw [List.getElem?_set_ne (Ne.symm ne)]; exact e1, e2, nb, vs, e3, r'.mv m⟩
  · rcases set_own h1 with ⟨_, z, _⟩ | ⟨_, z⟩
    · cases z
    · rcases set_own h2 with ⟨_, z2, _⟩ | ⟨_, z2⟩
      · cases z2
      · exact R.inj j k ds es z z2 he
/-- a new object is set apart -/
theorem Rel.addB (F : FrOk g Av H0) (hg : g.G H0) (R : Rel g Av B gh H0 o σ st H) (k : Kp g H H1) {p : Addr} (h0 : H p = none) (h1 : Nt (H1 p)) : Rel g Av (fun a => B a ∨ a = p) gh H0 o σ st H1 := by
  have m : Mv (Avo Av B o st) (Avo Av (fun a => B a ∨ a = p) o st) H H1 := by
    refine ⟨fun a u n e => ?_⟩
    have ne : a ≠ p := ne_of_none e h0
    refine ⟨fun z => ?_, k.1 a u e fun w => n (Avo.ta F (g.wt a w))⟩
    rcases z with (z | z | z) | z
    · exact n (.inl (.inl z))
    · exact n (.inl (.inr z))
    · exact ne z
    · exact n (.inr z)
  have np : ∀ {i : Nat} {ds : Ct}, st[i]? = some (.ow ds) → o i ≠ p := fun {i ds} h => by
    obtain ⟨_, _, _, vs, e, _⟩ := R.ow i ds h
    exact ne_of_none e h0
  refine ⟨R.len, R.kp.trans k, fun i d e => ?_, fun i ds e => ?_, R.inj, fun a h => ?_, fun v d h => (R.gho v d h).mv m⟩
  · obtain ⟨v, e1, r⟩ := R.val i d e
    exact ⟨v, e1, r.mv m⟩
  · obtain ⟨e1, e2, nb, vs, e3, r⟩ := R.ow i ds e
    exact ⟨e1, e2, fun z => z.elim nb (np e), vs, k.1 _ _ e3 fun w => R.ownT F e (g.wt _ w), r.mv m⟩
  · rcases h with h | rfl
    · exact ⟨Kp.tracked k.2 k (R.bt a h).1, (R.bt a h).2⟩
    · exact ⟨h1, fun z => g.tr H R.kp.2 _ z h0⟩
/-- .. and becomes a slot's own -/
theorem Rel.setOw (R : Rel g Av (fun a => B a ∨ a = p) gh H0 o σ st H) (nB : ¬ B p) (h0 : H0 p = none) {vs : HO} {ds : Ct} (hp : H p = some vs) (r : CR (Avo Av (fun a => B a ∨ a = p) o st) H ds vs) (i : Nat) :
    ∃ o', Rel g Av B gh H0 o' (σ.set i (some (.ref p))) (st.set i (.ow ds)) H := by
  have np : ∀ {j : Nat} {es : Ct}, st[j]? = some (.ow es) → o j ≠ p := fun {j es} h e => by
    obtain ⟨_, _, nb, _⟩ := R.ow j es h
    exact nb (.inr e)
  refine ⟨fun j => if j = i then p else o j, ?_⟩
  have sub : ∀ a, Avo Av B (fun j => if j = i then p else o j) (st.set i (.ow ds)) a → Avo Av (fun a => B a ∨ a = p) o st a := by
    rintro a (h | ⟨j, es, e1, e2⟩)
    · exact .inl (h.imp id .inl)
    · rcases set_own e1 with ⟨rfl, z, _⟩ | ⟨ne, z⟩
      · simp only [if_true] at e2
        exact .inl (.inr (.inr e2.symm))
      · simp only [if_neg ne] at e2
        exact .inr ⟨j, es, z, e2⟩
  have m : Mv (Avo Av (fun a => B a ∨ a = p) o st) (Avo Av B (fun j => if j = i then p else o j) (st.set i (.ow ds))) H H := ⟨fun a u n e => ⟨fun z => n (sub a z), e⟩⟩
  refine ⟨by simp [R.len], R.kp, fun j e h => ?_, fun j es h => ?_, fun j k es fs h1 h2 he => ?_, fun a h => R.bt a (.inl h), fun v d h => (R.gho v d h).mv m⟩
  · rcases set_val h with ⟨rfl, z, hl⟩ | ⟨ne, z⟩
    · cases z
    · obtain ⟨v', e1, r'⟩ := R.val j e z
      exact ⟨v', by rw [List.getElem?_set_ne (Ne.symm ne)]; exact e1, r'.mv m⟩
  · rcases set_own h with ⟨rfl, z, hl⟩ | ⟨ne, z⟩
    · cases z
      simp only [if_true]
      exact ⟨by rw [List.getElem?_set_self (by rw [R.len]; exact hl)], h0, nB, vs, hp, r.mv m⟩
    · obtain ⟨e1, e2, nb, vs, e3, r'⟩ := R.ow j es z
      simp only [if_neg ne]
      exact ⟨by rw [List.getElem?_set_ne (Ne.symm ne)]; exact e1, e2, fun z => nb (.inl z), vs, e3, r'.mv m⟩
  · rcases set_own h1 with ⟨rfl, z, _⟩ | ⟨n1, z⟩
    · rcases set_own h2 with ⟨rfl, z2, _⟩ | ⟨n2, z2⟩
      · rfl
      · simp only [if_true, if_neg n2] at he
        exact absurd he.symm (np z2)
    · rcases set_own h2 with ⟨rfl, z2, _⟩ | ⟨n2, z2⟩
      · simp only [if_true, if_neg n1] at he
        exact absurd he (np z)
      · simp only [if_neg n1, if_neg n2] at he
        exact R.inj j k es fs z z2 he
/-- a slot's own list is changed -/
theorem Rel.updOw (F : FrOk g Av H0) (R : Rel g Av B gh H0 o σ st H) {i : Nat} {ds ds' : Ct} {vs' : HO} (h : st[i]? = some (.ow ds)) (r : CR (Avo Av B o st) H ds' vs') :
    Rel g Av B gh H0 o σ (st.set i (.ow ds')) (upd H (o i) vs') := by
  obtain ⟨q1, q2, q3, vs, q4, q5⟩ := R.ow i ds h
  have hl : i < st.length := (List.getElem?_eq_some_iff.mp h).1
  have nT : ¬ g.T (o i) := R.ownT F h
  have same : ∀ a, Avo Av B o (st.set i (.ow ds')) a ↔ Avo Av B o st a := by
    intro a
    constructor
    · rintro (z | ⟨j, es, e1, e2⟩)
      · exact .inl z
      · rcases set_own e1 with ⟨rfl, z, _⟩ | ⟨_, z⟩
        · exact .inr ⟨j, ds, h, e2⟩
        · exact .inr ⟨j, es, z, e2⟩
    · rintro (z | ⟨j, es, e1, e2⟩)
      · exact .inl z
      · by_cases e : j = i
        · subst e
          exact .inr ⟨j, ds', by rw [List.getElem?_set_self hl], e2⟩
        · exact .inr ⟨j, es, by rw [List.getElem?_set_ne (Ne.symm e)]; exact e1, e2⟩
  have m : Mv (Avo Av B o st) (Avo Av B o (st.set i (.ow ds'))) H (upd H (o i) vs') := by
    refine ⟨fun a u n e => ⟨fun z => n ((same a).mp z), ?_⟩⟩
    rw [upd_ne fun z => n (.inr ⟨i, ds, h, z.symm⟩)]; exact e
  have kp : Kp g H0 (upd H (o i) vs') := by
    refine ⟨fun a u e nw => ?_, g.st H _ (fun a ha => upd_ne fun z => nT (z ▸ ha)) R.kp.2⟩
    rw [upd_ne (ne_of_none e q2)]
    exact R.kp.1 a u e nw
  refine ⟨by simp [R.len], kp, fun j e hj => ?_, fun j es hj => ?_, fun j k es fs h1 h2 he => ?_, fun a ha => ⟨?_, (R.bt a ha).2⟩, fun v d hv => (R.gho v d hv).mv m⟩
  · rcases set_val hj with ⟨rfl, z, _⟩ | ⟨ne, z⟩
    · cases z
    · obtain ⟨v', e1, r'⟩ := R.val j e z
      exact ⟨v', e1, r'.mv m⟩
  · rcases set_own hj with ⟨rfl, z, _⟩ | ⟨ne, z⟩
    · cases z
      exact ⟨q1, q2, q3, vs', upd_same, r.mv m⟩
    · obtain ⟨e1, e2, nb, ws, e3, r'⟩ := R.ow j es z
      exact ⟨e1, e2, nb, ws, by rw [upd_ne fun e => ne (R.inj j i es ds z h e)]; exact e3, r'.mv m⟩
  · rcases set_own h1 with ⟨rfl, _, _⟩ | ⟨n1, z⟩
    · rcases set_own h2 with ⟨rfl, _, _⟩ | ⟨n2, z2⟩
      · rfl
      · exact R.inj j k ds fs h z2 he
    · rcases set_own h2 with ⟨rfl, _, _⟩ | ⟨n2, z2⟩
      · exact R.inj j k es ds z h he
      · exact R.inj j k es fs z z2 he
  · by_cases z : a = o i
    · exact absurd (z ▸ ha) q3
    · rw [upd_ne z]
      exact (R.bt a ha).1
/-- a slot's own list becomes a value -/
theorem Rel.frz (F : FrOk g Av H0) (R : Rel g Av B gh H0 o σ st H) {i : Nat} {ds : Ct} (h : st[i]? = some (.ow ds)) : Rel g Av B gh H0 o σ (st.set i (.val ds.d)) H := by
  obtain ⟨q1, q2, q3, vs, q4, q5⟩ := R.ow i ds h
  have sub : ∀ a, Avo Av B o (st.set i (.val ds.d)) a → Avo Av B o st a ∧ a ≠ o i := by
    rintro a (z | ⟨j, es, e1, e2⟩)
    · exact ⟨.inl z, fun e => z.elim (fun z => F.tr _ z (e ▸ q2)) fun z => q3 (e ▸ z)⟩
    · rcases set_own e1 with ⟨_, z, _⟩ | ⟨ne, z⟩
      · cases z
      · exact ⟨.inr ⟨j, es, z, e2⟩, fun e => ne (R.inj j i es ds z h (e2.trans e))⟩
  have m : Mv (Avo Av B o st) (Avo Av B o (st.set i (.val ds.d))) H H := ⟨fun a u n e => ⟨fun z => n (sub a z).1, e⟩⟩
  refine ⟨by simp [R.len], R.kp, fun j e hj => ?_, fun j es hj => ?_, fun j k es fs h1 h2 he => ?_, R.bt, fun v d hv => (R.gho v d hv).mv m⟩
  · rcases set_val hj with ⟨rfl, z, _⟩ | ⟨ne, z⟩
    · cases z
      exact ⟨_, q1, q5.dr (fun z => (sub _ z).2 rfl) q4 fun a z => (sub a z).1⟩
    · obtain ⟨v', e1, r'⟩ := R.val j e z
      exact ⟨v', e1, r'.mv m⟩
  · rcases set_own hj with ⟨_, z, _⟩ | ⟨ne, z⟩
    · cases z
    · obtain ⟨e1, e2, nb, ws, e3, r'⟩ := R.ow j es z
      exact ⟨e1, e2, nb, ws, e3, r'.mv m⟩
  · rcases set_own h1 with ⟨_, z, _⟩ | ⟨_, z⟩
    · cases z
    · rcases set_own h2 with ⟨_, z2, _⟩ | ⟨_, z2⟩
      · cases z2
      · exact R.inj j k es fs z z2 he
end

section
variable {g : Gd} {Av B : Addr → Prop} {gh : V → D → Prop} {H0 H H1 : Hp} {o : Nat → Addr} {σ : L2.St} {st : Sx}
theorem Rel.setOwn {p : Addr} (R : Rel g Av (fun a => B a ∨ a = p) gh H0 o σ st H) (nB : ¬ B p) (h0 : H0 p = none) {vs : List V} {ds : List D} (hp : H p = some (.lst vs)) (r : DRs (Avo Av (fun a => B a ∨ a = p) o st) H vs ds) (i : Nat) :
    ∃ o', Rel g Av B gh H0 o' (σ.set i (some (.ref p))) (st.set i (.own ds)) H := R.setOw nB h0 (ds := .lst ds) hp ⟨vs, rfl, r⟩ i
theorem Rel.updOwn (F : FrOk g Av H0) (R : Rel g Av B gh H0 o σ st H) {i : Nat} {ds ds' : List D} {vs' : List V} (h : st[i]? = some (.own ds)) (r : DRs (Avo Av B o st) H vs' ds') :
    Rel g Av B gh H0 o σ (st.set i (.own ds')) (upd H (o i) (.lst vs')) := R.updOw F (ds' := .lst ds') h ⟨vs', rfl, r⟩
end

/-! ### statements -/
structure DE where
  nx : Sx → Prop
  rt : RQ
  bk : Sx → Prop
  ct : Sx → Prop
structure EndsOk (g : Gd) (Av B : Addr → Prop) (gh : V → D → Prop) (H0 : Hp) (E : Ends) (De : DE) : Prop where
  nx : ∀ o σ st H, Rel g Av B gh H0 o σ st H → De.nx st → E.nx σ H
  rt : ∀ fr d v H', Kp g H0 H' → Res Av H0 v fr d H' → De.rt fr d → E.rt v H'
  bk : ∀ o σ st H, Rel g Av B gh H0 o σ st H → De.bk st → E.bk σ H
  ct : ∀ o σ st H, Rel g Av B gh H0 o σ st H → De.ct st → E.ct σ H
abbrev WPS := DE → Sx → Prop
def WS (g : Gd) (X : Cx) (s : Stmt) (w : WPS) : Prop := ∃ t, PS X s t ∧ ∀ Av B gh H0 o σ st H E De, g.G H0 → FrOk g Av H0 → Rel g Av B gh H0 o σ st H → w De st → EndsOk g Av B gh H0 E De → t E σ H
def WSs (g : Gd) (X : Cx) (s : List Stmt) (w : WPS) : Prop := ∃ t, PSs X s t ∧ ∀ Av B gh H0 o σ st H E De, g.G H0 → FrOk g Av H0 → Rel g Av B gh H0 o σ st H → w De st → EndsOk g Av B gh H0 E De → t E σ H
section
variable {g : Gd} {X : Cx} {s : Stmt} {ss rest : List Stmt} {w u : WPS} {e : Expr} {we : WP} {pos : Pos}
theorem wss_nil : WSs g X [] (fun De st => De.nx st) := ⟨_, pss_nil, fun Av B gh H0 o σ st H E De hg F R hw K => K.nx o σ st H R hw⟩
theorem wss_one (h : WS g X s w) : WSs g X [s] w := let ⟨t, p, q⟩ := h; ⟨t, pss_one p, q⟩
theorem wss_cons (h : WS g X s w) (hr : WSs g X rest u) : WSs g X (s :: rest) (fun De st => w { De with nx := u De } st) := by
  obtain ⟨t, p, q⟩ := h
  obtain ⟨t2, p2, q2⟩ := hr
  refine ⟨_, pss_cons p p2, fun Av B gh H0 o σ st H E De hg F R hw K => ?_⟩
  exact q Av B gh H0 o σ st H _ _ hg F R hw ⟨fun o σ st H R h => q2 Av B gh H0 o σ st H E De hg F R h K, K.rt, K.bk, K.ct⟩
def frzS (i : Nat) (st : Sx) : Sx := match st[i]? with | some (.ow c) => st.set i (.val c.d) | _ => st
theorem wss_frz (i : Nat) (h : WSs g X ss w) : WSs g X ss (fun De st => w De (frzS i st)) := by
  obtain ⟨t, p, q⟩ := h
  refine ⟨t, p, fun Av B gh H0 o σ st H E De hg F R hw K => ?_⟩
  simp only [frzS] at hw
  split at hw
  · rename_i ds e
    exact q Av B gh H0 o σ _ H E De hg F (R.frz F e) hw K
  · exact q Av B gh H0 o σ st H E De hg F R hw K
theorem ws_pass : WS g X (.Pass pos) (fun De st => De.nx st) := ⟨_, ps_pass, fun Av B gh H0 o σ st H E De hg F R hw K => K.nx o σ st H R hw⟩
theorem ws_break : WS g X (.Break pos) (fun De st => De.bk st) := ⟨_, ps_break, fun Av B gh H0 o σ st H E De hg F R hw K => K.bk o σ st H R hw⟩
theorem ws_cont : WS g X (.Continue pos) (fun De st => De.ct st) := ⟨_, ps_continue, fun Av B gh H0 o σ st H E De hg F R hw K => K.ct o σ st H R hw⟩
theorem ws_expr (h : WE g X e we) (hs : swapsWith e none pos.line X.env = pure false := by rfl) : WS g X (.Expr e pos) (fun De st => we st fun _ _ => De.nx st) := by
  obtain ⟨t, p, q⟩ := h
  refine ⟨_, ps_expr p hs, fun Av B gh H0 o σ st H E De hg F R hw K => ?_⟩
  exact q Av B gh H0 o σ st H _ _ hg F R hw fun fr d v H1 k1 r1 hd => K.nx o σ st H1 (R.mono F k1) hd
theorem Res.out {g : Gd} {Av B : Addr → Prop} {gh : V → D → Prop} {H0 H H1 : Hp} {o : Nat → Addr} {σ : L2.St} {st : Sx} (hg : g.G H0) (R : Rel g Av B gh H0 o σ st H) {v : V} {fr : Bool} {d : D} (r : Res (Avo Av B o st) H v fr d H1) : Res Av H0 v fr d H1 := by
  refine ⟨r.dr.mv ⟨fun a u n e => ⟨fun z => n (.inl (.inl z)), e⟩⟩, fun e => ?_⟩
  obtain ⟨p, vs, ds, e1, e2, e3, e4, e5⟩ := r.new e
  exact ⟨p, vs, ds, e1, e2, R.kp.free hg e3, e4, e5.mv ⟨fun a u n e => ⟨fun z => n (z.imp (fun z => .inl (.inl z)) id), e⟩⟩⟩
theorem ws_ret (h : WE g X e we) : WS g X (.Return (some e) pos) (fun De st => we st De.rt) := by
  obtain ⟨t, p, q⟩ := h
  refine ⟨_, ps_ret p, fun Av B gh H0 o σ st H E De hg F R hw K => ?_⟩
  exact q Av B gh H0 o σ st H _ _ hg F R hw fun fr d v H1 k1 r1 hd => K.rt fr d v H1 (R.kp.trans k1) (r1.out hg R) hd
theorem ws_retN : WS g X (.Return none pos) (fun De st => De.rt false .non) :=
  ⟨_, ps_retN, fun Av B gh H0 o σ st H E De hg F R hw K => K.rt false .non .non H R.kp (.old .non) hw⟩
/-- an own list goes out -/
theorem ws_retO (i : Nat) (h : PE X e (tVar i)) : WS g X (.Return (some e) pos) (fun De st => ∃ ds, st[i]? = some (.own ds) ∧ De.rt true (.lst ds)) := by
  refine ⟨_, ps_ret h, fun Av B gh H0 o σ st H E De hg F R hw K => ?_⟩
  obtain ⟨ds, e1, e2⟩ := hw
  obtain ⟨q1, q2, q3, vs, q4, q5⟩ := R.own i ds e1
  have m : Mv (Avo Av B o st) Av H H := ⟨fun a u n e => ⟨fun z => n (.inl (.inl z)), e⟩⟩
  have m2 : Mv (Avo Av B o st) (fun a => Av a ∨ a = o i) H H := ⟨fun a u n e => ⟨fun z => n (z.elim (fun z => .inl (.inl z)) fun z => .inr ⟨i, .lst ds, e1, z.symm⟩), e⟩⟩
  exact ⟨_, q1, K.rt true (.lst ds) _ H R.kp ⟨.lst (fun z => F.tr _ z q2) q4 (q5.mv m), fun _ => ⟨_, vs, ds, rfl, rfl, q2, q4, q5.mv m2⟩⟩ e2⟩
/-- an own list or dict goes out, not to be changed any more -/
theorem ws_retC (i : Nat) (h : PE X e (tVar i)) : WS g X (.Return (some e) pos) (fun De st => ∃ c, st[i]? = some (.ow c) ∧ De.rt false c.d) := by
  refine ⟨_, ps_ret h, fun Av B gh H0 o σ st H E De hg F R hw K => ?_⟩
  obtain ⟨c, e1, e2⟩ := hw
  obtain ⟨q1, q2, q3, u, q4, q5⟩ := R.ow i c e1
  exact ⟨_, q1, K.rt false c.d _ H R.kp (.old (q5.dr (fun z => F.tr _ z q2) q4 fun a z => .inl (.inl z))) e2⟩
theorem ws_if {c : Expr} {a b : List Stmt} {tc : WPT} {wa wb : WPS} (hc : WT g X c tc) (ha : WSs g X a wa) (hb : WSs g X b wb) : WS g X (.If c a b pos) (fun De st => tc st fun k => if k = true then wa De st else wb De st) := by
  obtain ⟨t, p, q⟩ := hc
  obtain ⟨t1, p1, q1⟩ := ha
  obtain ⟨t2, p2, q2⟩ := hb
  refine ⟨_, ps_if p p1 p2, fun Av B gh H0 o σ st H E De hg F R hw K => ?_⟩
  refine q Av B gh H0 o σ st H _ _ hg F R hw fun c H1 k1 hd => ?_
  cases c with
  | true => exact q1 Av B gh H0 o σ st H1 E De hg F (R.mono F k1) hd K
  | false => exact q2 Av B gh H0 o σ st H1 E De hg F (R.mono F k1) hd K
/-- name = e -/
theorem ws_set (i : Nat) (h : WE g X e we) (hp : ∀ te, PE X e te → PS X s (tAsg te (gName i))) : WS g X s (fun De st => we st fun _ d => De.nx (st.set i (.val d))) := by
  obtain ⟨t, p, q⟩ := h
  refine ⟨_, hp t p, fun Av B gh H0 o σ st H E De hg F R hw K => ?_⟩
  exact q Av B gh H0 o σ st H _ _ hg F R hw fun fr d v H1 k1 r1 hd => K.nx _ _ _ H1 ((R.mono F k1).setVal i r1.dr) hd
/-- name = a list that nobody else has -/
theorem Rel.ownRes {Av B : Addr → Prop} {gh : V → D → Prop} {H0 H H1 : Hp} {o : Nat → Addr} {σ : L2.St} {st : Sx} (F : FrOk g Av H0) (hg : g.G H0) (R : Rel g Av B gh H0 o σ st H) (k : Kp g H H1) {v : V} {ds : List D} (r : Res (Avo Av B o st) H v true (.lst ds) H1) (i : Nat) :
    ∃ o', Rel g Av B gh H0 o' (σ.set i (some v)) (st.set i (.own ds)) H1 := by
  obtain ⟨p, vs, ds', rfl, e2, e3, e4, e5⟩ := r.new rfl
  cases e2
  refine (R.addB F hg k e3 (nt_of e4 (fun _ z => nomatch z))).setOwn (fun z => (R.bt p z).1 e3) (R.kp.free hg e3) e4 (e5.mv ⟨fun a u n e => ⟨fun z => n ?_, e⟩⟩) i
  rcases z with (z | z | z) | z
  · exact .inl (.inl (.inl z))
  · exact .inl (.inl (.inr z))
  · exact .inr z
  · exact .inl (.inr z)
theorem ws_own (i : Nat) (h : WE g X e we) (hp : ∀ te, PE X e te → PS X s (tAsg te (gName i))) : WS g X s (fun De st => we st fun fr d => ∃ ds, fr = true ∧ d = .lst ds ∧ De.nx (st.set i (.own ds))) := by
  obtain ⟨t, p, q⟩ := h
  refine ⟨_, hp t p, fun Av B gh H0 o σ st H E De hg F R hw K => ?_⟩
  refine q Av B gh H0 o σ st H _ _ hg F R hw fun fr d v H1 k1 r1 hd => ?_
  obtain ⟨ds, rfl, rfl, hd⟩ := hd
  obtain ⟨o', R'⟩ := R.ownRes F hg k1 r1 i
  exact K.nx o' _ _ H1 R' hd
/-- two names at once -/
def put (own : Bool) (i : Nat) (fr : Bool) (d : D) (st : Sx) (Q : Sx → Prop) : Prop := match own with
  | false => Q (st.set i (.val d))
  | true => ∃ ds, fr = true ∧ d = .lst ds ∧ Q (st.set i (.own ds))
end
end DW
namespace DW
open PySem PySem.Spec PyProof.Rows L2

/-! ### what is walked -/
def one (gv : V) (gd : D) : V → D → Prop := fun v d => v = gv ∧ d = gd
theorem oneR {Av : Addr → Prop} {H : Hp} {gv : V} {gd : D} (r : DR Av H gv gd) : ∀ v d, one gv gd v d → DR Av H v d := by
  rintro v d ⟨rfl, rfl⟩
  exact r
/-- J goes through ds as long as what Gh names stands -/
def Walk (g : Gd) (J : It) (Gh : V → D → Prop) (ds : List D) : Prop := ∀ (Avs Av : Addr → Prop) (H : Hp), Fit g Avs Av H → (∀ v d, Gh v d → DR Avs H v d) →
  J.stop ds.length H ∧ ∀ i d, ds[i]? = some d → J.go i H ∧ ∀ x H', J.yld i H x H' → Kp g H H' ∧ DR Avs H' x d
abbrev WPI := Sx → (List D → Prop) → Prop
def WI (g : Gd) (X : Cx) (tg iter : Expr) (w : WPI) : Prop := ∃ t, PI X tg iter t ∧ ∀ Av B gh H0 o σ st H R Qd, g.G H0 → FrOk g Av H0 → Rel g Av B gh H0 o σ st H → w st Qd →
  (∀ ds Gh J H', Kp g H H' → (∀ v d, Gh v d → DR (Avo Av B o st) H' v d) → Walk g J Gh ds → Qd ds → R J H') → t σ H R
section
variable {g : Gd} {X : Cx} {tg e a b : Expr} {w wa wb : WP} {p pos : Pos}
theorem walk_list {K : PySem.W.Frag} {a : Addr} {ds : List D} : Walk g (Itl K a) (one (.ref a) (.lst ds)) ds := by
  intro Avs Av H F r0
  have r := r0 _ _ ⟨rfl, rfl⟩
  cases r with
  | lst n e rs =>
    rename_i vs
    refine ⟨⟨vs, .inl (.inl e), by rw [rs.length]; exact Nat.le_refl _⟩, fun i d hd => ?_⟩
    obtain ⟨v, hv, rv⟩ := rs.get hd
    refine ⟨⟨vs, v, .inl (.inl e), hv⟩, fun x H' y => ?_⟩
    obtain ⟨rfl, y⟩ := y
    have := y vs (.inl (.inl e))
    rw [hv] at this; cases this
    exact ⟨Kp.refl F.gg, rv⟩
theorem walk_tup {K : PySem.W.Frag} {a : Addr} {ds : List D} : Walk g (Itt K a) (one (.ref a) (.tup ds)) ds := by
  intro Avs Av H F r0
  have r := r0 _ _ ⟨rfl, rfl⟩
  cases r with
  | tup n e rs =>
    rename_i vs
    refine ⟨⟨vs, .inl (.inl e), by rw [rs.length]; exact Nat.le_refl _⟩, fun i d hd => ?_⟩
    obtain ⟨v, hv, rv⟩ := rs.get hd
    refine ⟨⟨vs, v, .inl (.inl e), hv⟩, fun x H' y => ?_⟩
    obtain ⟨rfl, y⟩ := y
    have := y vs (.inl (.inl e))
    rw [hv] at this; cases this
    exact ⟨Kp.refl F.gg, rv⟩
theorem walk_range {lo : Int} {n : Nat} : Walk g (Itr lo n) (one .non .non) ((List.range n).map fun (i : Nat) => D.int (lo + (i : Int))) := by
  intro Avs Av H F r
  refine ⟨by show n ≤ _; simp, fun i d hd => ?_⟩
  have hl : i < n := by
    have := (List.getElem?_eq_some_iff.mp hd).1
    simpa using this
  have ed : d = .int (lo + (i : Int)) := by
    rw [List.getElem?_map, List.getElem?_range hl] at hd
    exact (Option.some.inj hd).symm
  refine ⟨hl, fun x H' y => ?_⟩
  obtain ⟨rfl, rfl⟩ := y
  subst ed
  exact ⟨Kp.refl F.gg, .int _⟩
def mItL : D → (List D → Prop) → Prop | .lst ds, Q => Q ds | _, _ => False
def mItT : D → (List D → Prop) → Prop | .tup ds, Q => Q ds | _, _ => False
theorem wi_list (h : WE g X e w) : WI g X tg e (fun st Q => w st fun _ d => mItL d Q) := by
  obtain ⟨t, p, q⟩ := h
  refine ⟨_, pi_list p, fun Av B gh H0 o σ st H R Qd hg F Rl hw hk => ?_⟩
  refine q Av B gh H0 o σ st H _ _ hg F Rl hw fun fr d v H1 k1 r1 hd => ?_
  cases d <;> simp only [mItL] at hd
  case lst ds =>
    have r := r1.dr
    cases r with
    | lst n e rs => exact ⟨_, rfl, ⟨_, .inl (.inl e)⟩, hk ds _ _ H1 k1 (oneR (.lst n e rs)) walk_list hd⟩
theorem wi_tup (h : WE g X e w) : WI g X tg e (fun st Q => w st fun _ d => mItT d Q) := by
  obtain ⟨t, p, q⟩ := h
  refine ⟨_, pi_tup p, fun Av B gh H0 o σ st H R Qd hg F Rl hw hk => ?_⟩
  refine q Av B gh H0 o σ st H _ _ hg F Rl hw fun fr d v H1 k1 r1 hd => ?_
  cases d <;> simp only [mItT] at hd
  case tup ds =>
    have r := r1.dr
    cases r with
    | tup n e rs => exact ⟨_, rfl, ⟨_, .inl (.inl e)⟩, hk ds _ _ H1 k1 (oneR (.tup n e rs)) walk_tup hd⟩
def rg62 (j : Int) : Prop := -(2 ^ 62) ≤ j ∧ j < 2 ^ 62
theorem wi_rg1 (h : WE g X a w) (hg : Gl X "range") (hm : X.mg "range" = none) (hs : starEach [a] X.env = [(false, eval a X.env)] := by rfl) (na : starEach [a] X.env = (false, eval a X.env) :: starEach [] X.env := by rfl) :
    WI g X tg (.Call (.Name "range" p) [a] [] pos) (fun st Q => w st fun _ d => ∃ j, d = .int j ∧ rg62 j ∧ Q ((List.range j.toNat).map fun (i : Nat) => D.int (0 + (i : Int)))) := by
  obtain ⟨t, p, q⟩ := h
  refine ⟨_, pi_range1 hg hm (pa_cons p pa_nil na) hs, fun Av B gh H0 o σ st H R Qd hg F Rl hw hk => ?_⟩
  refine q Av B gh H0 o σ st H _ _ hg F Rl hw fun fr d v H1 k1 r1 hd => ?_
  obtain ⟨j, rfl, ok, hd⟩ := hd
  have ev : v = .int j := by cases r1.dr; rfl
  subst ev
  exact ⟨j, rfl, ok.1, ok.2, hk _ _ _ H1 k1 (oneR .non) walk_range hd⟩
theorem wi_rg2 (h : WE g X a wa) (h2 : WE g X b wb) (hg : Gl X "range") (hm : X.mg "range" = none) (hs : starEach [a, b] X.env = [(false, eval a X.env), (false, eval b X.env)] := by rfl) (hs2 : starEach [b] X.env = [(false, eval b X.env)] := by rfl)
    (na : starEach [a, b] X.env = (false, eval a X.env) :: starEach [b] X.env := by rfl) (nb : starEach [b] X.env = (false, eval b X.env) :: starEach [] X.env := by rfl) :
    WI g X tg (.Call (.Name "range" p) [a, b] [] pos) (fun st Q => wa st fun _ d => wb st fun _ d2 => ∃ i j, d = .int i ∧ d2 = .int j ∧ rg62 i ∧ rg62 j ∧ Q ((List.range (j - i).toNat).map fun (k : Nat) => D.int (i + (k : Int)))) := by
  obtain ⟨t, p, q⟩ := h
  obtain ⟨t2, p2, q2⟩ := h2
  refine ⟨_, pi_range2 hg hm (pa_cons p (pa_cons p2 pa_nil nb) na) hs hs2, fun Av B gh H0 o σ st H R Qd hg F Rl hw hk => ?_⟩
  refine q Av B gh H0 o σ st H _ _ hg F Rl hw fun fr d v H1 k1 r1 hw1 => ?_
  refine q2 Av B gh H0 o σ st H1 _ _ hg F (Rl.mono F k1) hw1 fun fr2 d2 v2 H2 k2 r2 hd => ?_
  obtain ⟨i, j, rfl, rfl, ok, ok2, hd⟩ := hd
  have ev : v = .int i := by cases r1.dr; rfl
  have ev2 : v2 = .int j := by cases r2.dr; rfl
  subst ev ev2
  exact ⟨i, j, rfl, ⟨ok.1, ok.2, ok2.1, ok2.2⟩, hk _ _ _ H2 (k1.trans k2) (oneR .non) walk_range hd⟩
end

/-! ### targets -/
abbrev WPG := D → Sx → (Sx → Prop) → Prop
/-- a target that stores to the slots is -/
def WG (g : Gd) (X : Cx) (tg : Expr) (js : List Nat) (b : WPG) : Prop := ∃ t, PG X tg t ∧ ∀ Av B gh H0 o σ st H v d Q Qd, g.G H0 → FrOk g Av H0 → Rel g Av B gh H0 o σ st H → DR (Avo Av B o st) H v d → b d st Qd →
  (∀ σ' st', Rel g Av B gh H0 o σ' st' H → wipe σ' js = wipe σ js → ((∀ j ∈ js, ∀ c : Ct, st[j]? ≠ some (Sl.ow c)) → ∀ a, Avo Av B o st a → Avo Av B o st' a) → Qd st' → Q σ' H) → t v σ H Q
theorem avo_set {Av B : Addr → Prop} {o : Nat → Addr} {st : Sx} {i : Nat} {d : D} (n : ∀ c : Ct, st[i]? ≠ some (Sl.ow c)) (a : Addr) (h : Avo Av B o st a) : Avo Av B o (st.set i (.val d)) a := by
  rcases h with h | ⟨j, es, e1, e2⟩
  · exact .inl h
  · by_cases e : j = i
    · subst e; exact absurd e1 (n es)
    · exact .inr ⟨j, es, by rw [List.getElem?_set_ne (Ne.symm e)]; exact e1, e2⟩
theorem wipe_set {js : List Nat} {i : Nat} {x : Option V} {σ : L2.St} (h : i ∈ js) : wipe (σ.set i x) js = wipe σ js := by
  induction js with
  | nil => cases h
  | cons j js ih =>
    simp only [wipe]
    by_cases e : i ∈ js
    · rw [ih e]
    · have : i = j := by
        rcases List.mem_cons.mp h with h | h
        · exact h
        · exact absurd h e
      subst this
      have key : ∀ (js : List Nat) (σ : L2.St), i ∉ js → wipe (σ.set i x) js = (wipe σ js).set i x := by
        intro js
        induction js with
        | nil => intro σ _; rfl
        | cons k ks ih2 =>
          intro σ hk
          simp only [wipe]
          rw [ih2 σ fun z => hk (List.mem_cons_of_mem _ z)]
          exact List.set_comm _ _ fun z => hk (z ▸ List.mem_cons_self)
      rw [key js σ e, List.set_set]
section
variable {g : Gd} {X : Cx} {tg : Expr} {es : List Expr}
theorem wg_name (i : Nat) (h : PG X tg (gName i)) : WG g X tg [i] (fun d st Q => Q (st.set i (.val d))) :=
  ⟨_, h, fun Av B gh H0 o σ st H v d Q Qd hg F R r hb hk => hk _ _ (R.setVal i r) (wipe_set (by simp)) (fun n => avo_set (n i (by simp))) hb⟩
/-- (a, b, ..), names -/
def putAll : List Nat → List D → Sx → Sx
  | i :: is, d :: ds, st => putAll is ds (st.set i (.val d))
  | _, _, st => st
def gNames : List Nat → TGs
  | [] => gNil
  | i :: is => gCons (gName i) (gNames is)
theorem wg_tup (js : List Nat) {n : Nat} (hn : js.length = n) (h : PG X tg (gTup X.K n (gNames js))) : WG g X tg js (fun d st Q => ∃ ds, d = .tup ds ∧ ds.length = js.length ∧ Q (putAll js ds st)) := by
  refine ⟨_, h, fun Av B gh H0 o σ st H v d Q Qd hg F R r hb hk => ?_⟩
  obtain ⟨ds, rfl, hl, hq⟩ := hb
  cases r with
  | tup na ea rs =>
    rename_i a vs
    refine ⟨a, vs, rfl, .inl (.inl ea), by rw [rs.length, hl, hn], ?_⟩
    have key : ∀ (is : List Nat) (vs : List V) (ds : List D) (σ2 : L2.St) (st2 : Sx), (∀ i ∈ is, i ∈ js) → ds.length = is.length → DRs (Avo Av B o st2) H vs ds → Rel g Av B gh H0 o σ2 st2 H → wipe σ2 js = wipe σ js → ((∀ j ∈ js, ∀ c : Ct, st[j]? ≠ some (Sl.ow c)) → (∀ j ∈ js, ∀ c : Ct, st2[j]? ≠ some (Sl.ow c)) ∧ ∀ a, Avo Av B o st a → Avo Av B o st2 a) → Qd (putAll is ds st2) → gNames is vs σ2 H Q := by
      intro is
      induction is with
      | nil =>
        intro vs ds σ2 st2 _ hl rs R hwp ha hq
        cases ds with
        | nil => cases rs; exact ⟨rfl, hk _ _ R hwp (fun n => (ha n).2) hq⟩
        | cons _ _ => simp at hl
      | cons i is ih =>
        intro vs ds σ2 st2 hj hl rs R hwp ha hq
        cases rs with
        | nil => simp at hl
        | cons r1 rs =>
          have R' := R.setVal i r1
          refine ⟨_, _, rfl, ?_⟩
          have sub : ∀ (d : D) a, Avo Av B o (st2.set i (.val d)) a → Avo Av B o st2 a := by
            rintro d a (h | ⟨j, es, e1, e2⟩)
            · exact .inl h
            · rcases set_own e1 with ⟨_, z, _⟩ | ⟨_, z⟩
              · cases z
              · exact .inr ⟨j, es, z, e2⟩
          refine ih _ _ _ _ (fun k hk => hj k (List.mem_cons_of_mem _ hk)) (by simpa using hl) (rs.mv ⟨fun a u n e => ⟨fun z => n (sub _ a z), e⟩⟩) R' ((wipe_set (hj i List.mem_cons_self)).trans hwp) (fun n => ?_) hq
          obtain ⟨n2, sa⟩ := ha n
          refine ⟨fun j hjj ds h => ?_, fun a h => avo_set (n2 i (hj i List.mem_cons_self)) a (sa a h)⟩
          rcases set_own h with ⟨_, z, _⟩ | ⟨_, z⟩
          · cases z
          · exact n2 j hjj ds z
    exact key js vs ds σ st (fun _ h => h) hl rs R rfl (fun n => ⟨n, fun _ h => h⟩) hq
end

/-! ### for -/
def wFor (b : WPG) (body : WPS) (De : DE) : List D → Sx → Prop
  | [], st => De.nx st
  | d :: ds, st => b d st fun st' => body ⟨fun s => wFor b body De ds s, De.rt, De.nx, fun s => wFor b body De ds s⟩ st'
section
variable {g : Gd} {X : Cx} {tg iter : Expr} {body : List Stmt} {wi : WPI} {bn : WPG} {wb : WPS} {js : List Nat} {pos : Pos}
theorem ws_for (hc : X.calm = true) (hi : WI g X tg iter wi) (ht : WG g X tg js bn) (hb : WSs g X body wb) (hp : PassesOwn (model X.prog X.w) X.A X.env X.xe := by exact PassesOwn.never) (hs : ∀ x, foldedSetIterable iter X.env x = pure x := by intro _; rfl) :
    WS g X (.For tg iter body [] pos) (fun De st => wi st fun ds => wFor bn wb De ds st) := by
  obtain ⟨t, p, q⟩ := hi
  obtain ⟨t1, p1, q1⟩ := ht
  obtain ⟨t2, p2, q2⟩ := hb
  refine ⟨_, ps_for hp hc p p1 p2 hs, fun Av B gh H0 o σ st H E De hg F R hw K => ?_⟩
  refine q Av B gh H0 o σ st H _ _ hg F R hw fun ds Gh J H1 k1 r1 wk hd => ?_
  -- what holds at the head of turn i
  let Inv := fun (i : Nat) (σ : L2.St) (H : Hp) => ∃ o st, Rel g Av B (fun v d => gh v d ∨ Gh v d) H0 o σ st H ∧ wFor bn wb De (ds.drop i) st
  have base : Inv 0 σ H1 := by
    have R1 := R.mono F k1
    exact ⟨o, st, ⟨R1.len, R1.kp, R1.val, R1.ow, R1.inj, R1.bt, fun v d h => h.elim (R1.gho v d) fun h => r1 v d h⟩, hd⟩
  have less : ∀ {o σ st H}, Rel g Av B (fun v d => gh v d ∨ Gh v d) H0 o σ st H → Rel g Av B gh H0 o σ st H := fun R => ⟨R.len, R.kp, R.val, R.ow, R.inj, R.bt, fun v d h => R.gho v d (.inl h)⟩
  refine ⟨fun i m σ H => i ≤ ds.length ∧ m = ds.length - i ∧ Inv i σ H, ⟨ds.length, Nat.zero_le _, rfl, base⟩, fun i m σ H hW => ?_⟩
  obtain ⟨hi, rfl, o2, st2, R2, hf⟩ := hW
  have wk2 := wk _ _ H (R2.fit F) (fun v d h => R2.gho v d (.inr h))
  by_cases hl : i < ds.length
  · obtain ⟨go, yl⟩ := wk2.2 i _ (List.getElem?_eq_getElem hl)
    refine .inr ⟨go, fun σ' H' => Inv (i + 1) σ' H', fun σ' H' h => ⟨_, by omega, hl, rfl, h⟩, fun x H2 y => ?_⟩
    obtain ⟨k2, rx⟩ := yl x H2 y
    rw [List.drop_eq_getElem_cons hl] at hf
    refine q1 Av B _ H0 o2 σ st2 H2 x _ _ _ hg F (R2.mono F k2) rx hf fun σ3 st3 R3 _ _ hb3 => ?_
    refine q2 Av B _ H0 o2 σ3 st3 H2 _ _ hg F R3 hb3 ⟨fun o4 σ4 st4 H4 R4 h4 => ⟨o4, st4, R4, h4⟩, K.rt, fun o4 σ4 st4 H4 R4 h4 => K.nx o4 σ4 st4 H4 (less R4) h4, fun o4 σ4 st4 H4 R4 h4 => ⟨o4, st4, R4, h4⟩⟩
  · have e : i = ds.length := by omega
    subst e
    rw [List.drop_length] at hf
    exact .inl ⟨wk2.1, K.nx o2 σ st2 H (less R2) hf⟩
end

/-! ### list comprehensions -/
def wLc (b : WPG) (tt : WPT) (te : WP) (s0 : Sx) : List D → (List D → Prop) → Prop
  | [], Q => Q []
  | d :: ds, Q => b d s0 fun st => tt st fun c => if c = true then te st fun _ y => wLc b tt te s0 ds fun ys => Q (y :: ys) else wLc b tt te s0 ds Q
def wipeS (st : Sx) : List Nat → Sx
  | [] => st
  | i :: is => (wipeS st is).set i .un
def WTs (g : Gd) (X : Cx) (ifs : List Expr) (w : WPT) : Prop := ∃ t, PTs X ifs t ∧ ∀ Av B gh H0 o σ st H Q Qd, g.G H0 → FrOk g Av H0 → Rel g Av B gh H0 o σ st H → w st Qd →
  (∀ b H', Kp g H H' → Qd b → Q b H') → t σ H Q
theorem Rel.wipe {g : Gd} {Av B : Addr → Prop} {gh : V → D → Prop} {H0 H : Hp} {o : Nat → Addr} {σ : L2.St} {st : Sx} (R : Rel g Av B gh H0 o σ st H) : ∀ js, Rel g Av B gh H0 o (wipe σ js) (wipeS st js) H
  | [] => R
  | j :: js => by
    show Rel g Av B gh H0 o ((L2.wipe σ js).set j none) ((wipeS st js).set j .un) H
    exact (R.wipe js).setUn j none
end DW
namespace DW
open PySem PySem.Spec PyProof.Rows L2

/-- one reading for all contexts of a family -/
theorem uni {ι : Type} {T : Type} {P : ι → T → Prop} {S : T → Prop} (meet : (ι → T) → T) (anti : ∀ (f : ι → T) (i : ι), P i (f i) → P i (meet f)) (closed : ∀ f : ι → T, (∀ i, S (f i)) → S (meet f))
    (h : ∀ i, ∃ t, P i t ∧ S t) : ∃ t, (∀ i, P i t) ∧ S t := by
  let f := fun i => (h i).choose
  have hf : ∀ i, P i (f i) ∧ S (f i) := fun i => (h i).choose_spec
  exact ⟨meet f, fun i => anti f i (hf i).1, closed f fun i => (hf i).2⟩
section
variable {g : Gd} {Av B : Addr → Prop} {gh : V → D → Prop} {H0 H H1 : Hp} {o : Nat → Addr} {σ : L2.St} {st : Sx}
/-- what is being made is written -/
theorem Rel.updB (R : Rel g Av B gh H0 o σ st H) {p : Addr} {u : HO} (hb : B p) (h0 : H0 p = none) (hu : ∀ vs, u ≠ .tup vs) : Rel g Av B gh H0 o σ st (upd H p u) := by
  have nT : ¬ g.T p := (R.bt p hb).2
  have m : Mv (Avo Av B o st) (Avo Av B o st) H (upd H p u) := ⟨fun a x n e => ⟨n, by rw [upd_ne fun (z : a = p) => n (.inl (.inr (z ▸ hb)))]; exact e⟩⟩
  refine ⟨R.len, ⟨fun a x e nw => ?_, g.st H _ (fun a ha => upd_ne fun z => nT (z ▸ ha)) R.kp.2⟩, fun i d e => ?_, fun i ds e => ?_, R.inj, fun a h => ⟨?_, (R.bt a h).2⟩, fun v d h => (R.gho v d h).mv m⟩
  · rw [upd_ne (ne_of_none e h0)]; exact R.kp.1 a x e nw
  · obtain ⟨v, e1, r⟩ := R.val i d e
    exact ⟨v, e1, r.mv m⟩
  · obtain ⟨e1, e2, nb, vs, e3, r⟩ := R.ow i ds e
    exact ⟨e1, e2, nb, vs, by rw [upd_ne fun (z : o i = p) => nb (z ▸ hb)]; exact e3, r.mv m⟩
  · by_cases z : a = p
    · subst z; exact nt_of upd_same hu
    · rw [upd_ne z]; exact (R.bt a h).1
theorem wipeS_get {st : Sx} {js : List Nat} {i : Nat} {s : Sl} (h : (wipeS st js)[i]? = some s) : (i ∈ js ∧ s = .un) ∨ (i ∉ js ∧ st[i]? = some s) := by
  induction js with
  | nil => exact .inr ⟨by simp, h⟩
  | cons j js ih =>
    simp only [wipeS] at h
    by_cases e : i = j
    · subst e
      by_cases hl : i < (wipeS st js).length
      · rw [List.getElem?_set_self hl] at h
        exact .inl ⟨by simp, (Option.some.inj h).symm⟩
      · rw [List.getElem?_eq_none (by simpa using hl)] at h; cases h
    · rw [List.getElem?_set_ne (Ne.symm e)] at h
      rcases ih h with ⟨a, b⟩ | ⟨a, b⟩
      · exact .inl ⟨List.mem_cons_of_mem _ a, b⟩
      · exact .inr ⟨by simp [e, a], b⟩
theorem wipeS_keep {st : Sx} {js : List Nat} {i : Nat} (h : i ∉ js) : (wipeS st js)[i]? = st[i]? := by
  induction js with
  | nil => rfl
  | cons j js ih =>
    simp only [wipeS]
    rw [List.getElem?_set_ne fun e => h (by simp [e])]
    exact ih fun z => h (List.mem_cons_of_mem _ z)
/-- the block's frame: the wiped slots' own lists and the new list set apart -/
def Blk (B : Addr → Prop) (o : Nat → Addr) (st : Sx) (js : List Nat) (p : Addr) (a : Addr) : Prop := (B a ∨ a = p) ∨ ∃ (i : Nat) (ds : Ct), i ∈ js ∧ st[i]? = some (Sl.ow ds) ∧ o i = a
theorem Rel.blk (F : FrOk g Av H0) {p : Addr} (R : Rel g Av (fun a => B a ∨ a = p) gh H0 o σ st H) (js : List Nat) : Rel g Av (Blk B o st js p) gh H0 o (L2.wipe σ js) (wipeS st js) H := by
  have sub : ∀ a, Avo Av (Blk B o st js p) o (wipeS st js) a → Avo Av (fun a => B a ∨ a = p) o st a := by
    rintro a ((z | z | ⟨i, ds, _, e1, e2⟩) | ⟨i, ds, e1, e2⟩)
    · exact .inl (.inl z)
    · exact .inl (.inr z)
    · exact .inr ⟨i, ds, e1, e2⟩
    · rcases wipeS_get e1 with ⟨_, z⟩ | ⟨_, z⟩
      · cases z
      · exact .inr ⟨i, ds, z, e2⟩
  have R2 := R.wipe js
  have m : Mv (Avo Av (fun a => B a ∨ a = p) o st) (Avo Av (Blk B o st js p) o (wipeS st js)) H H := ⟨fun a u n e => ⟨fun z => n (sub a z), e⟩⟩
  refine ⟨R2.len, R.kp, fun i d e => ?_, fun i ds e => ?_, R2.inj, fun a h => ?_, fun v d h => (R.gho v d h).mv m⟩
  · rcases wipeS_get e with ⟨_, z⟩ | ⟨nj, z⟩
    · cases z
    · obtain ⟨v, e1, _⟩ := R2.val i d e
      obtain ⟨v', e1', r⟩ := R.val i d z
      have : v = v' := by
        have q := (L2.wipe_some e1).1
        rw [e1'] at q; exact (Option.some.inj (Option.some.inj q)).symm
      subst this
      exact ⟨v, e1, r.mv m⟩
  · rcases wipeS_get e with ⟨_, z⟩ | ⟨nj, z⟩
    · cases z
    · obtain ⟨e1, e2, nb, vs, e3, _⟩ := R2.ow i ds e
      obtain ⟨_, _, nb', vs', e3', r⟩ := R.ow i ds z
      rw [e3] at e3'; cases e3'
      refine ⟨e1, e2, fun h => ?_, vs, e3, r.mv m⟩
      rcases h with h | ⟨j, es, hj, h1, h2⟩
      · exact nb' h
      · exact nj ((R.inj j i es ds h1 z h2) ▸ hj)
  · rcases h with h | ⟨j, es, hj, h1, h2⟩
    · exact R.bt a h
    · obtain ⟨_, _, _, vs, e3, r3⟩ := R.ow j es h1
      rw [← h2]
      exact ⟨by rw [e3]; exact r3.mt.nt, R.ownT F h1⟩
end
section
variable {g : Gd} {X : Cx} {elt tg iter : Expr} {ifs : List Expr} {scope : Scope} {own : List (Str × Nat)} {pos : Pos} {wi : WPI} {bn : WPG} {tt : WPT} {te : WP}
abbrev Blks (X : Cx) (scope : Scope) := Shared × Hp × Addr × List (Str × Addr) × List Addr
abbrev blkX (X : Cx) (scope : Scope) (i : Blks X scope) : Cx := X.blk i.1 i.2.1 scope (compEnvC scope i.2.2.2.1 i.2.2.1 X.env) i.2.2.2.2
theorem wts_nil : WTs g X [] (fun _ Q => Q true) := ⟨_, pts_nil, fun Av B gh H0 o σ st H Q Qd hg F R hw hk => hk true H (Kp.refl R.kp.2) hw⟩
theorem wts_one {c : Expr} {u : WPT} (h : WT g X c u) : WTs g X [c] u := let ⟨t, p, q⟩ := h; ⟨t, pts_one p, q⟩
/-- the soundness of a comprehension's reading -/
theorem lc_snd {ti : TI} {tb : TG} {tT : TT} {tE : TE} (js : List Nat)
    (qi : ∀ Av B gh H0 o σ st H R Qd, g.G H0 → FrOk g Av H0 → Rel g Av B gh H0 o σ st H → wi st Qd → (∀ ds Gh J H', Kp g H H' → (∀ v d, Gh v d → DR (Avo Av B o st) H' v d) → Walk g J Gh ds → Qd ds → R J H') → ti σ H R)
    (qb : ∀ Av B gh H0 o σ st H v d Q Qd, g.G H0 → FrOk g Av H0 → Rel g Av B gh H0 o σ st H → DR (Avo Av B o st) H v d → bn d st Qd →
      (∀ σ' st', Rel g Av B gh H0 o σ' st' H → wipe σ' js = wipe σ js → ((∀ j ∈ js, ∀ c : Ct, st[j]? ≠ some (Sl.ow c)) → ∀ a, Avo Av B o st a → Avo Av B o st' a) → Qd st' → Q σ' H) → tb v σ H Q)
    (qt : ∀ Av B gh H0 o σ st H Q Qd, g.G H0 → FrOk g Av H0 → Rel g Av B gh H0 o σ st H → tt st Qd → (∀ b H', Kp g H H' → Qd b → Q b H') → tT σ H Q)
    (qe : ∀ Av B gh H0 o σ st H Q Qd, g.G H0 → FrOk g Av H0 → Rel g Av B gh H0 o σ st H → te st Qd → (∀ fr d v H', Kp g H H' → Res (Avo Av B o st) H v fr d H' → Qd fr d → Q v H') → tE σ H Q) :
    ∀ Av B gh H0 o σ st H Q (Qd : Bool → D → Prop), g.G H0 → FrOk g Av H0 → Rel g Av B gh H0 o σ st H → (wi st fun ds => ds.length < sizeLine ∧ wLc bn tt te (wipeS st js) ds fun ys => Qd true (.lst ys)) →
      (∀ fr d v H', Kp g H H' → Res (Avo Av B o st) H v fr d H' → Qd fr d → Q v H') → tLc ti tb tT tE js σ H Q := by
  intro Av B gh H0 o σ st H Q Qd hg F R hw hk
  refine qi Av B gh H0 o σ st H _ _ hg F R hw fun ds Gh J H1 k1 r1 wk hd => ?_
  intro D hD
  obtain ⟨hsz, hd⟩ := hd
  let gh' := fun (v : V) (d : DW.D) => gh v d ∨ Gh v d
  have R1 : Rel g Av B gh' H0 o σ st H1 := by
    have R1 := R.mono F k1
    exact ⟨R1.len, R1.kp, R1.val, R1.ow, R1.inj, R1.bt, fun v d h => h.elim (R1.gho v d) fun h => r1 v d h⟩
  have kD : Kp g H1 (upd H1 D (.lst [])) := Kp.new R1.kp.2 hD
  have h0D : H0 D = none := R1.kp.free hg hD
  have R2 : Rel g Av (fun a => B a ∨ a = D) gh' H0 o σ st (upd H1 D (.lst [])) := R1.addB F hg kD hD (nt_of upd_same (fun _ z => nomatch z))
  have bD : Blk B o st js D D := .inl (.inr rfl)
  let W := fun (i m : Nat) (H : Hp) => i ≤ ds.length ∧ m = ds.length - i ∧ ∃ acc ys, H D = some (.lst acc) ∧ acc.length ≤ i ∧ Rel g Av (fun a => B a ∨ a = D) gh' H0 o σ st H ∧ DRs (Avo Av (Blk B o st js D) o (wipeS st js)) H acc ys ∧
    (∀ a u, H1 a = some u → ¬ g.W a → H a = some u) ∧ wLc bn tt te (wipeS st js) (ds.drop i) fun zs => Qd true (.lst (ys ++ zs))
  have noown : ∀ j ∈ js, ∀ es : Ct, (wipeS st js)[j]? ≠ some (Sl.ow es) := fun j hj es h => by
    rcases wipeS_get h with ⟨_, z⟩ | ⟨nj, _⟩
    · cases z
    · exact nj hj
  refine ⟨W, ⟨ds.length, Nat.zero_le _, rfl, [], [], upd_same, Nat.le_refl _, R2, .nil, fun a u e _ => by rw [upd_ne (ne_of_none e hD)]; exact e, by simpa using hd⟩, fun i m H2 hW => ?_⟩
  obtain ⟨hi, rfl, acc, ys, hacc, hla, R3, dacc, keep, hf⟩ := hW
  have wk2 := wk _ _ H2 (R3.fit F) (fun v d h => R3.gho v d (.inr h))
  by_cases hl : i < ds.length
  · obtain ⟨go, yl⟩ := wk2.2 i _ (List.getElem?_eq_getElem hl)
    rw [List.drop_eq_getElem_cons hl] at hf
    refine .inr ⟨go, fun H' => W (i + 1) (ds.length - (i + 1)) H', fun H' h => ⟨_, by omega, h⟩, fun x H3 y => ?_⟩
    obtain ⟨k3, rx⟩ := yl x H3 y
    have R4 := (R3.mono F k3).blk F js
    have rx' : DR (Avo Av (Blk B o st js D) o (wipeS st js)) H3 x ds[i] := by
      have r0 := wk _ _ H2 ((R3.blk F js).fit F) (fun v d h => (R3.blk F js).gho v d (.inr h))
      exact ((r0.2 i _ (List.getElem?_eq_getElem hl)).2 x H3 y).2
    refine qb Av _ gh' H0 o _ _ H3 x _ _ _ hg F R4 rx' hf fun σ5 st5 R5 hwp hav hb5 => ⟨hwp.trans (by
      have : ∀ (js : List Nat) (σ : L2.St), L2.wipe (L2.wipe σ js) js = L2.wipe σ js := by
        intro js σ
        have key : ∀ (ks : List Nat), (∀ k ∈ ks, k ∈ js) → L2.wipe (L2.wipe σ js) ks = L2.wipe σ js := by
          intro ks
          induction ks with
          | nil => intro _; rfl
          | cons k ks ih =>
            intro hk
            simp only [L2.wipe]
            rw [ih fun z hz => hk z (List.mem_cons_of_mem _ hz)]
            apply List.ext_getElem?
            intro n
            by_cases e : k = n
            · subst e
              have hkm := hk k List.mem_cons_self
              by_cases hlen : k < (L2.wipe σ js).length
              · rw [List.getElem?_set_self hlen]
                cases q : (L2.wipe σ js)[k]? with
                | none => rw [List.getElem?_eq_none_iff] at q; omega
                | some z =>
                  cases z with
                  | none => rfl
                  | some z => exact absurd hkm (L2.wipe_some q).2
              · rw [List.getElem?_eq_none (by simpa using hlen), List.getElem?_eq_none (by simpa using hlen)]
            · rw [List.getElem?_set_ne e]
        exact key js fun _ h => h
      rw [this]), ?_⟩
    have hav := hav noown
    refine qt Av _ gh' H0 o σ5 st5 H3 _ _ hg F R5 hb5 fun c H4 k4 hc => ?_
    have k34 := k3.trans k4
    have dacc4 := dacc.mv (Mv.kp (fun a h => Avo.ta F h) k34)
    have acc4 : H4 D = some (.lst acc) := k34.1 D _ hacc fun w => (R3.bt D (.inr rfl)).2 (g.wt _ w)
    cases c with
    | false =>
      simp only [Bool.false_eq_true, if_false] at hc ⊢
      exact ⟨hl, rfl, acc, ys, acc4, by omega, R3.mono F k34, dacc4, fun a u e n => k34.1 a u (keep a u e n) n, hc⟩
    | true =>
      simp only [if_true] at hc ⊢
      refine qe Av _ gh' H0 o σ5 st5 H4 _ _ hg F (R5.mono F k4) hc fun fr d v H5 k5 r5 hz => ?_
      have k45 := k34.trans k5
      have acc5 : H5 D = some (.lst acc) := k5.1 D _ acc4 fun w => (R3.bt D (.inr rfl)).2 (g.wt _ w)
      have R5' := R3.mono F k45
      refine ⟨acc, acc5, by omega, hl, rfl, acc ++ [v], ys ++ [d], upd_same, by simp; omega, R5'.updB (.inr rfl) h0D (fun _ z => nomatch z), ?_, fun a u e n => by rw [upd_ne (ne_of_none e hD)]; exact k45.1 a u (keep a u e n) n, ?_⟩
      · have m : Mv (Avo Av (Blk B o st js D) o (wipeS st js)) (Avo Av (Blk B o st js D) o (wipeS st js)) H5 (upd H5 D (.lst (acc ++ [v]))) := ⟨fun a u n e => ⟨n, by rw [upd_ne fun (z : a = D) => n (.inl (.inr (z ▸ bD)))]; exact e⟩⟩
        have dv : DR (Avo Av (Blk B o st js D) o (wipeS st js)) H5 v d := r5.dr.mv ⟨fun a u n e => ⟨fun z => n (hav a z), e⟩⟩
        exact ((dacc4.mv (Mv.kp (fun a h => Avo.ta F h) k5)).app (.cons dv .nil)).mv m
      · simpa using hz
  · have e : i = ds.length := by omega
    subst e
    rw [List.drop_length] at hf
    have sub : ∀ a, (Avo Av B o st a ∨ a = D) → Avo Av (Blk B o st js D) o (wipeS st js) a := by
      rintro a (((z | z) | ⟨j, es, e1, e2⟩) | z)
      · exact .inl (.inl z)
      · exact .inl (.inr (.inl (.inl z)))
      · by_cases hj : j ∈ js
        · exact .inl (.inr (.inr ⟨j, es, hj, e1, e2⟩))
        · exact .inr ⟨j, es, by rw [wipeS_keep hj]; exact e1, e2⟩
      · exact .inl (.inr (.inl (.inr z)))
    have kf : Kp g H H2 := ⟨fun a u e n => keep a u (k1.1 a u e n) n, R3.kp.2⟩
    have nD : ¬ Avo Av B o st D := fun z => R1.tracked F z hD
    refine .inl ⟨wk2.1, hk true (.lst ys) (.ref D) H2 kf ⟨.lst nD hacc (dacc.mv ⟨fun a u n e => ⟨fun z => n (sub a (.inl z)), e⟩⟩), fun _ => ⟨D, acc, ys, rfl, rfl, k1.free R.kp.2 hD, hacc, dacc.mv ⟨fun a u n e => ⟨fun z => n (sub a z), e⟩⟩⟩⟩ (by simpa [wLc] using hf)⟩
/-- the parts of a comprehension, one reading for all blocks -/
theorem lc_parts {js : List Nat} (hg : ∀ i : Blks X scope, WG g (blkX X scope i) tg js bn) (ht : ∀ i : Blks X scope, WTs g (blkX X scope i) ifs tt) (he : ∀ i : Blks X scope, WE g (blkX X scope i) elt te) :
    (∃ tb, (∀ i : Blks X scope, PG (blkX X scope i) tg tb) ∧ ∀ Av B gh H0 o σ st H v d Q Qd, g.G H0 → FrOk g Av H0 → Rel g Av B gh H0 o σ st H → DR (Avo Av B o st) H v d → bn d st Qd →
      (∀ σ' st', Rel g Av B gh H0 o σ' st' H → wipe σ' js = wipe σ js → ((∀ j ∈ js, ∀ c : Ct, st[j]? ≠ some (Sl.ow c)) → ∀ a, Avo Av B o st a → Avo Av B o st' a) → Qd st' → Q σ' H) → tb v σ H Q) ∧
    (∃ tT, (∀ i : Blks X scope, PTs (blkX X scope i) ifs tT) ∧ ∀ Av B gh H0 o σ st H Q Qd, g.G H0 → FrOk g Av H0 → Rel g Av B gh H0 o σ st H → tt st Qd → (∀ b H', Kp g H H' → Qd b → Q b H') → tT σ H Q) ∧
    (∃ tE, (∀ i : Blks X scope, PE (blkX X scope i) elt tE) ∧ ∀ Av B gh H0 o σ st H Q Qd, g.G H0 → FrOk g Av H0 → Rel g Av B gh H0 o σ st H → te st Qd → (∀ fr d v H', Kp g H H' → Res (Avo Av B o st) H v fr d H' → Qd fr d → Q v H') → tE σ H Q) :=
  ⟨uni (ι := Blks X scope) (T := TG) (fun f v σ H Q => ∀ i, f i v σ H Q) (fun f i p => ⟨fun pins s σ H v u Q I r h => p.run pins s σ H v u Q I r (h i)⟩) (fun f hf Av B gh H0 o σ st H v d Q Qd a b c e f2 k i => hf i Av B gh H0 o σ st H v d Q Qd a b c e f2 k) hg,
   uni (ι := Blks X scope) (T := TT) (fun f σ H Q => ∀ i, f i σ H Q) (fun f i p => ⟨fun pins s σ H Q I h => p.run pins s σ H Q I (h i)⟩) (fun f hf Av B gh H0 o σ st H Q Qd a b c e k i => hf i Av B gh H0 o σ st H Q Qd a b c e k) ht,
   uni (ι := Blks X scope) (T := TE) (fun f σ H Q => ∀ i, f i σ H Q) (fun f i p => ⟨fun pins s σ H Q I h => p.run pins s σ H Q I (h i)⟩) (fun f hf Av B gh H0 o σ st H Q Qd a b c e k i => hf i Av B gh H0 o σ st H Q Qd a b c e k) he⟩
theorem we_lc (hc : X.calm = true) (hN : X.N.Nodup) (hi : WI g X tg iter wi) (ok : BlkOk X.N X.env.scope scope own) (hg : ∀ i : Blks X scope, WG g (blkX X scope i) tg (own.map (·.2)) bn) (ht : ∀ i : Blks X scope, WTs g (blkX X scope i) ifs tt)
    (he : ∀ i : Blks X scope, WE g (blkX X scope i) elt te) (hs : ∀ x, foldedSetIterable iter X.env x = pure x := by intro _; rfl) :
    WE g X (.ListComp elt [⟨tg, iter, ifs, 0⟩] scope pos) (fun st Q => wi st fun ds => ds.length < sizeLine ∧ wLc bn tt te (wipeS st (own.map (·.2))) ds fun ys => Q true (.lst ys)) := by
  obtain ⟨ti, pi, qi⟩ := hi
  obtain ⟨⟨tb, pb, qb⟩, ⟨tT, pt, qt⟩, ⟨tE, pe, qe⟩⟩ := lc_parts hg ht he
  refine ⟨_, pe_lc hc hN pi ok (fun s H C cl fp => pb (s, H, C, cl, fp)) (fun s H C cl fp => pt (s, H, C, cl, fp)) (fun s H C cl fp => pe (s, H, C, cl, fp)) hs, ?_⟩
  exact lc_snd _ qi qb qt qe
/-- name = [.. for ..] -/
theorem ws_setLc (i : Nat) {y : Str} {py spos : Pos} (k : Bool) (hc : X.calm = true) (hN : X.N.Nodup) (hy : X.N[i]? = some y) (hyl : X.env.scope.names.lookup y = some .local)
    (hsw : swapsWith (.ListComp elt [⟨tg, iter, ifs, 0⟩] scope pos) (some (.Name y py)) spos.line X.env = pure true)
    (hi : WI g X tg iter wi) (ok : BlkOk X.N X.env.scope scope own) (hg : ∀ i : Blks X scope, WG g (blkX X scope i) tg (own.map (·.2)) bn) (ht : ∀ i : Blks X scope, WTs g (blkX X scope i) ifs tt)
    (he : ∀ i : Blks X scope, WE g (blkX X scope i) elt te) (hs : ∀ x, foldedSetIterable iter X.env x = pure x := by intro _; rfl) :
    WS g X (.Assign [.Name y py] (.ListComp elt [⟨tg, iter, ifs, 0⟩] scope pos) spos) (fun De st => wi st fun ds => ds.length < sizeLine ∧ wLc bn tt te (wipeS st (own.map (·.2))) ds fun ys => De.nx (st.set i (if k = true then .own ys else .val (.lst ys)))) := by
  obtain ⟨ti, pi, qi⟩ := hi
  obtain ⟨⟨tb, pb, qb⟩, ⟨tT, pt, qt⟩, ⟨tE, pe, qe⟩⟩ := lc_parts hg ht he
  refine ⟨_, ps_setLc hc hN hy hyl hsw pi ok (fun s H C cl fp => pb (s, H, C, cl, fp)) (fun s H C cl fp => pt (s, H, C, cl, fp)) (fun s H C cl fp => pe (s, H, C, cl, fp)) hs, ?_⟩
  intro Av B gh H0 o σ st H E De hg F R hw K
  refine lc_snd (Qd := fun fr d => fr = true ∧ ∃ ys, d = .lst ys ∧ De.nx (st.set i (if k = true then .own ys else .val (.lst ys)))) _ qi qb qt qe Av B gh H0 o σ st H _ hg F R ?_ fun fr d v H1 k1 r1 hd => ?_
  · have mono : ∀ (P P' : List D → Prop), (∀ ys, P ys → P' ys) → P = P' ∨ True := fun _ _ _ => .inr trivial
    have e : (fun ds : List D => ds.length < sizeLine ∧ wLc bn tt te (wipeS st (own.map (·.2))) ds fun ys => (true = true ∧ ∃ zs, D.lst ys = .lst zs ∧ De.nx (st.set i (if k = true then .own zs else .val (.lst zs))))) =
        (fun ds : List D => ds.length < sizeLine ∧ wLc bn tt te (wipeS st (own.map (·.2))) ds fun ys => De.nx (st.set i (if k = true then .own ys else .val (.lst ys)))) := by
      have e2 : (fun ys : List D => (true = true ∧ ∃ zs, D.lst ys = .lst zs ∧ De.nx (st.set i (if k = true then .own zs else .val (.lst zs))))) = fun ys => De.nx (st.set i (if k = true then .own ys else .val (.lst ys))) := by
        funext ys
        apply propext
        constructor
        · rintro ⟨_, zs, e, h⟩; cases e; exact h
        · intro h; exact ⟨rfl, ys, rfl, h⟩
      rw [e2]
    rw [e]; exact hw
  · obtain ⟨rfl, ys, rfl, hd⟩ := hd
    cases k with
    | true =>
      obtain ⟨o', R'⟩ := R.ownRes F hg k1 r1 i
      exact K.nx o' _ _ H1 R' (by simpa using hd)
    | false => exact K.nx o _ _ H1 ((R.mono F k1).setVal i r1.dr) (by simpa using hd)
end
end DW
namespace DW
open PySem PySem.Spec PyProof.Rows L2

/-- a method that changes the slot's own list: what it asks of the items and the arguments, the new items -/
abbrev SemM := List D → List D → (List D → Prop) → Prop
def SM (K : PySem.W.Frag) (r : V → List V → Hp → VK → Prop) (m : SemM) : Prop := ∀ (Avs Av : Addr → Prop) (H : Hp) (p : Addr) (vs : List V) (ds : List D) (as : List V) (es : List D) (Q : VK) (Qd : List D → Prop), H p = some (.lst vs) → DRs Avs H vs ds → Rdvs Avs Av H as es → m ds es Qd →
  (∀ ds' vs', DRs Avs H vs' ds' → Qd ds' → Q .non (upd H p (.lst vs'))) → r (.ref p) as H Q
section
variable {g : Gd} {X : Cx} {s : Stmt} {e e1 e2 ei : Expr} {w w1 w2 wi : WP} {wa : WPA} {es : List Expr} {pos : Pos} {r : V → List V → Hp → VK → Prop} {m : SemM}
theorem ws_mut (i : Nat) (hs : SM X.K r m) (h : WAR g X es wa) (hp : ∀ t, PA X es t → PS X s (tDrop (tBM X.K "list" r (tVar i) t))) :
    WS g X s (fun De st => ∃ ds, st[i]? = some (.own ds) ∧ wa st fun es => m ds es fun ds' => De.nx (st.set i (.own ds'))) := by
  obtain ⟨t, p, q⟩ := h
  refine ⟨_, hp t p, fun Av B gh H0 o σ st H E De hg F R hw K => ?_⟩
  obtain ⟨ds, hi, hw⟩ := hw
  obtain ⟨e1, e2, nb, vs, e3, rr⟩ := R.own i ds hi
  refine ⟨_, e1, .inl ⟨rfl, vs, .inl (.inl e3)⟩, q Av B gh H0 o σ st H _ _ hg F R hw fun es us H1 k1 r1 hd => ?_⟩
  have R1 := R.mono F k1
  obtain ⟨_, _, _, vs1, e4, r4⟩ := R1.own i ds hi
  exact hs _ _ H1 (o i) vs1 ds us es _ _ e4 r4 r1 hd fun ds' vs' r' hn => K.nx o σ _ _ (R1.updOwn F hi r') hn
theorem ws_mut0 (i : Nat) (hs : SM X.K r m) (hp : PS X s (tDrop (tBM0 X.K "list" r (tVar i)))) :
    WS g X s (fun De st => ∃ ds, st[i]? = some (.own ds) ∧ m ds [] fun ds' => De.nx (st.set i (.own ds'))) := by
  refine ⟨_, hp, fun Av B gh H0 o σ st H E De hg F R hw K => ?_⟩
  obtain ⟨ds, hi, hw⟩ := hw
  obtain ⟨e1, e2, nb, vs, e3, rr⟩ := R.own i ds hi
  exact ⟨_, e1, .inl ⟨rfl, vs, .inl (.inl e3)⟩, hs _ (fun _ => False) H (o i) vs ds [] [] _ _ e3 rr .nil hw fun ds' vs' r' hn => K.nx o σ _ _ (R.updOwn F hi r') hn⟩
def mAppend : SemM | ds, [e], Q => e.isC = false ∧ ds.length < sizeLine ∧ Q (ds ++ [e]) | _, _, _ => False
theorem sm_append {K : PySem.W.Frag} : SM K rAppend mAppend := by
  intro Avs Av H p vs ds as es Q Qd hp r ra hm hk
  unfold mAppend at hm
  split at hm
  · obtain ⟨v, rfl, y⟩ := ra.one
    exact ⟨p, vs, v, rfl, rfl, hp, by rw [r.length]; exact hm.2.1, hk _ _ (r.app (.cons (y.dr hm.1) .nil)) hm.2.2⟩
  · exact hm.elim
def mExtend : SemM | ds, [.lst es], Q => ds.length + es.length ≤ sizeLine ∧ Q (ds ++ es) | _, _, _ => False
theorem sm_extend {K : PySem.W.Frag} : SM K rExtend mExtend := by
  intro Avs Av H p vs ds as es Q Qd hp r ra hm hk
  unfold mExtend at hm
  split at hm
  · obtain ⟨v, rfl, y⟩ := ra.one
    obtain ⟨u, ws, rfl, e, q⟩ := y.lst
    exact ⟨p, u, vs, ws, rfl, rfl, hp, e, by rw [r.length, q.length]; exact hm.1, hk _ _ (r.app q) hm.2⟩
  · exact hm.elim
def mReverse : SemM | ds, [], Q => Q ds.reverse | _, _, _ => False
theorem sm_reverse {K : PySem.W.Frag} : SM K rReverse mReverse := by
  intro Avs Av H p vs ds as es Q Qd hp r ra hm hk
  unfold mReverse at hm
  split at hm
  · cases ra
    exact ⟨p, vs, rfl, rfl, hp, hk _ _ r.rev hm⟩
  · exact hm.elim
/-- a value that may be a list is appended: it is strong -/
theorem ws_appendE (i : Nat) (h : WE g X e w) (hp : ∀ te, PE X e te → PS X s (tDrop (tBM X.K "list" rAppend (tVar i) (tCons te tNil)))) :
    WS g X s (fun De st => ∃ ds, st[i]? = some (.own ds) ∧ w st fun _ d => ds.length < sizeLine ∧ De.nx (st.set i (.own (ds ++ [d])))) := by
  obtain ⟨t, p, q⟩ := h
  refine ⟨_, hp t p, fun Av B gh H0 o σ st H E De hg F R hw K => ?_⟩
  obtain ⟨ds, hi, hw⟩ := hw
  obtain ⟨e1, e2, nb, vs, e3, rr⟩ := R.own i ds hi
  refine ⟨_, e1, .inl ⟨rfl, vs, .inl (.inl e3)⟩, q Av B gh H0 o σ st H _ _ hg F R hw fun fr d v H1 k1 r1 hd => ?_⟩
  have R1 := R.mono F k1
  obtain ⟨_, _, _, vs1, e4, r4⟩ := R1.own i ds hi
  exact ⟨o i, vs1, v, rfl, rfl, e4, by rw [r4.length]; exact hd.1, K.nx o σ _ _ (R1.updOwn F hi (r4.app (.cons r1.dr .nil))) hd.2⟩
/-- x[k] = e, x the slot's own -/
theorem ws_item (i : Nat) (h : WE g X e w) (hx : WE g X ei wi) (hp : ∀ te ti, PE X e te → PE X ei ti → PS X s (tAsg te (gSub (tVar i) ti rSetL))) :
    WS g X s (fun De st => ∃ ds, st[i]? = some (.own ds) ∧ w st fun _ d => wi st fun _ k => ∃ n j, k = .int n ∧ ixN ds.length n = some j ∧ De.nx (st.set i (.own (ds.set j d)))) := by
  obtain ⟨t, p, q⟩ := h
  obtain ⟨t2, p2, q2⟩ := hx
  refine ⟨_, hp t t2 p p2, fun Av B gh H0 o σ st H E De hg F R hw K => ?_⟩
  obtain ⟨ds, hi, hw⟩ := hw
  refine q Av B gh H0 o σ st H _ _ hg F R hw fun fr d v H1 k1 r1 hd => ?_
  have R1 := R.mono F k1
  obtain ⟨e1, e2, nb, vs, e3, rr⟩ := R1.own i ds hi
  refine ⟨_, e1, q2 Av B gh H0 o σ st H1 _ _ hg F R1 hd fun fr2 k v2 H2 k2 r2 hd2 => ?_⟩
  obtain ⟨n, j, rfl, h2, h3⟩ := hd2
  have R2 := R1.mono F k2
  obtain ⟨_, _, _, vs2, e4, r4⟩ := R2.own i ds hi
  have ev : v2 = .int n := by cases r2.dr; rfl
  exact ⟨o i, vs2, n, j, rfl, ev, e4, by rw [r4.length]; exact h2, K.nx o σ _ _ (R2.updOwn F hi (r4.set (r1.dr.mv (Mv.avo F k2)) j)) h3⟩
/-- name += e, ints -/
theorem ws_aug (i : Nat) (h : WE g X e w) (hp : ∀ te, PE X e te → PS X s (tAug i te (ipI fun i j => i + j))) :
    WS g X s (fun De st => ∃ a, st[i]? = some (.val (.int a)) ∧ w st fun _ d => ∃ b, d = .int b ∧ De.nx (st.set i (.val (.int (a + b))))) := by
  obtain ⟨t, p, q⟩ := h
  refine ⟨_, hp t p, fun Av B gh H0 o σ st H E De hg F R hw K => ?_⟩
  obtain ⟨a, hi, hw⟩ := hw
  obtain ⟨v, e1, r⟩ := R.val i _ hi
  cases r
  refine ⟨_, e1, q Av B gh H0 o σ st H _ _ hg F R hw fun fr d v H1 k1 r1 hd => ?_⟩
  obtain ⟨b, rfl, hd⟩ := hd
  have ev : v = .int b := by cases r1.dr; rfl
  exact ⟨a, b, rfl, ev, K.nx o _ _ H1 ((R.mono F k1).setVal i (.int _)) hd⟩
theorem ws_never : WS g X s (fun _ _ => False) := ⟨_, ps_never, fun Av B gh H0 o σ st H E De hg F R hw K => hw.elim⟩
theorem wss_never {ss : List Stmt} : WSs g X ss (fun _ _ => False) := ⟨_, pss_never, fun Av B gh H0 o σ st H E De hg F R hw K => hw.elim⟩
/-- a, b = e1, e2 -/
theorem ws_par (k1 k2 : Bool) (i j : Nat) (hij : i ≠ j) (h1 : WE g X e1 w1) (h2 : WE g X e2 w2) (hp : ∀ t1 t2, PE X e1 t1 → PE X e2 t2 → PS X s (tPar i j (tCons t1 (tCons t2 tNil)))) :
    WS g X s (fun De st => w1 st fun f1 d1 => w2 st fun f2 d2 => put k1 i f1 d1 st fun st1 => put k2 j f2 d2 st1 De.nx) := by
  obtain ⟨t1, p1, q1⟩ := h1
  obtain ⟨t2, p2, q2⟩ := h2
  refine ⟨_, hp t1 t2 p1 p2, fun Av B gh H0 o σ st H E De hg F R hw K => ?_⟩
  refine q1 Av B gh H0 o σ st H _ _ hg F R hw fun f1 d1 v1 H1 k1' r1 hw1 => ?_
  cases k1 with
  | false =>
    have R1 := R.mono F k1'
    refine q2 Av B gh H0 o σ st H1 _ _ hg F R1 hw1 fun f2 d2 v2 H2 k2' r2 hd => ?_
    have R2 := R1.mono F k2'
    have r1' := r1.dr.mv (Mv.avo F k2')
    refine ⟨v1, v2, rfl, ?_⟩
    have R3 := R2.setVal i r1'
    have sub : ∀ (d : D) a, Avo Av B o (st.set i (.val d)) a → Avo Av B o st a := by
      rintro d a (h | ⟨j, es, e1, e2⟩)
      · exact .inl h
      · rcases set_own e1 with ⟨_, z, _⟩ | ⟨_, z⟩
        · cases z
        · exact .inr ⟨j, es, z, e2⟩
    cases k2 with
    | false => exact K.nx o _ _ H2 (R3.setVal j (r2.dr.mv ⟨fun a u n e => ⟨fun z => n (sub _ a z), e⟩⟩)) hd
    | true =>
      obtain ⟨ds, rfl, rfl, hd⟩ := hd
      obtain ⟨p, vs, ds', rfl, e2, e3, e4, e5⟩ := r2.new rfl
      cases e2
      have R1' := (R1.setVal i (r1.dr))
      have R3' := R1'.addB F hg k2' e3 (nt_of e4 (fun _ z => nomatch z))
      obtain ⟨o', R4⟩ := R3'.setOwn (fun z => (R1.bt p z).1 e3) (R1.kp.free hg e3) e4 (e5.mv ⟨fun a u n e => ⟨fun z => n (by
        rcases z with (z | z | z) | z
        · exact .inl (.inl (.inl z))
        · exact .inl (.inl (.inr z))
        · exact .inr z
        · exact .inl (sub _ a (.inr z))), e⟩⟩) j
      exact K.nx o' _ _ H2 R4 hd
  | true =>
    -- the first list is set apart while the second is made
    by_cases hf : f1 = true ∧ ∃ ds, d1 = .lst ds
    · obtain ⟨rfl, ds, rfl⟩ := hf
      obtain ⟨p, vs, ds', rfl, e2, e3, e4, e5⟩ := r1.new rfl
      cases e2
      have R1 := R.addB F hg k1' e3 (nt_of e4 (fun _ z => nomatch z))
      refine q2 Av _ gh H0 o σ st H1 _ _ hg F R1 hw1 fun f2 d2 v2 H2 k2' r2 hd => ?_
      obtain ⟨ds2, _, hz, hd⟩ := hd
      cases hz
      have R2 := R1.mono F k2'
      have e4' : H2 p = some (.lst vs) := k2'.1 p _ e4 fun w => (R1.bt p (.inr rfl)).2 (g.wt _ w)
      have e5' : DRs (Avo Av (fun a => B a ∨ a = p) o st) H2 vs ds := (e5.mv ⟨fun a u n e => ⟨fun z => n (by
        rcases z with (z | z | z) | z
        · exact .inl (.inl (.inl z))
        · exact .inl (.inl (.inr z))
        · exact .inr z
        · exact .inl (.inr z)), e⟩⟩).mv (Mv.avo F k2')
      refine ⟨.ref p, v2, rfl, ?_⟩
      cases k2 with
      | false =>
        have R3 := R2.setVal j r2.dr
        have sub : ∀ (d : D) a, Avo Av (fun a => B a ∨ a = p) o (st.set j (.val d)) a → Avo Av (fun a => B a ∨ a = p) o st a := by
          rintro d a (h | ⟨j, es, e1, e2⟩)
          · exact .inl h
          · rcases set_own e1 with ⟨_, z, _⟩ | ⟨_, z⟩
            · cases z
            · exact .inr ⟨j, es, z, e2⟩
        obtain ⟨o', R4⟩ := R3.setOwn (fun z => (R.bt p z).1 e3) (R.kp.free hg e3) e4' (e5'.mv ⟨fun a u n e => ⟨fun z => n (sub _ a z), e⟩⟩) i
        rw [List.set_comm _ _ (Ne.symm hij)] at R4
        have hd' : De.nx ((st.set i (.own ds)).set j (.val d2)) := hd
        rw [List.set_comm _ _ hij] at hd'
        exact K.nx o' _ _ H2 R4 hd'
      | true =>
        obtain ⟨ds3, rfl, rfl, hd⟩ := hd
        obtain ⟨o', R3⟩ := R1.ownRes F hg k2' r2 j
        have e5'' : DRs (Avo Av (fun a => B a ∨ a = p) o' (st.set j (.own ds3))) H2 vs ds := by
          obtain ⟨p2, vs2, ds2, rfl, z2, z3, z4, z5⟩ := r2.new rfl
          have ow : o' j = p2 ∨ ¬ j < st.length := by
            by_cases hl : j < st.length
            · obtain ⟨a1, _⟩ := R3.own j ds3 (by rw [List.getElem?_set_self hl])
              rw [List.getElem?_set_self (by rw [R1.len]; exact hl)] at a1
              exact .inl (V.ref.inj (Option.some.inj (Option.some.inj a1)).symm)
            · exact .inr hl
          have same : ∀ k (es : Ct), k ≠ j → st[k]? = some (Sl.ow es) → o' k = o k := fun k es hk he => by
            obtain ⟨a1, _⟩ := R3.ow k es (by rw [List.getElem?_set_ne (Ne.symm hk)]; exact he)
            obtain ⟨b1, _⟩ := R1.ow k es he
            rw [List.getElem?_set_ne (Ne.symm hk), b1] at a1
            exact (V.ref.inj (Option.some.inj (Option.some.inj a1))).symm
          have eH1 : DRs (Avo Av (fun a => B a ∨ a = p) o st) H1 vs ds := e5.mv ⟨fun a u n e => ⟨fun z => n (by
            rcases z with (z | z | z) | z
            · exact .inl (.inl (.inl z))
            · exact .inl (.inl (.inr z))
            · exact .inr z
            · exact .inl (.inr z)), e⟩⟩
          refine eH1.mv ⟨fun a u n e => ⟨fun z => ?_, k2'.1 a u e fun w => n (Avo.ta F (g.wt a w))⟩⟩
          rcases z with z | ⟨k, es, h1, h2⟩
          · exact n (.inl z)
          · rcases set_own h1 with ⟨rfl, _, hl⟩ | ⟨nk, z⟩
            · rcases ow with ow | ow
              · rw [← h2, ow, z3] at e; cases e
              · exact ow hl
            · exact n (.inr ⟨k, es, z, by rw [← same k es nk z]; exact h2⟩)
        obtain ⟨o2, R4⟩ := R3.setOwn (fun z => (R.bt p z).1 e3) (R.kp.free hg e3) e4' e5'' i
        rw [List.set_comm _ _ (Ne.symm hij)] at R4
        have hd' : De.nx ((st.set i (.own ds)).set j (.own ds3)) := hd
        rw [List.set_comm _ _ hij] at hd'
        exact K.nx o2 _ _ H2 R4 hd'
    · -- not a list of its own: never so
      have R1 := R.mono F k1'
      refine q2 Av B gh H0 o σ st H1 _ _ hg F R1 hw1 fun f2 d2 v2 H2 k2' r2 hd => ?_
      obtain ⟨ds, h1, h2, _⟩ := hd
      exact absurd ⟨h1, ds, h2⟩ hf
end
end DW
namespace DW
open PySem PySem.Spec PyProof.Rows L2

/-! ### isinstance -/
structure InsT (K : PySem.W.Frag) (C : Addr) : Prop where
  cl : Cls K C
  ha : PySem.W.findIn K (.ref C) "__class__" = some (some (.builtin "object.__class__"))
  hn : PySem.W.specialIn K (.builtin "object.__class__") "__get__" = some (some (.builtin "getset_descriptor.__get__"))
  htk : PySem.W.takesIn K (.builtin "object.__class__") = some true
  hm : PySem.W.mroIn K C (.type "object") = some true
def D.tyv : D → Option Value
  | .non => some (.type "NoneType") | .bl _ => some (.type "bool") | .int _ => some (.type "int") | .str _ => some (.type "str")
  | .tup _ => some (.type "tuple") | .lst _ => some (.type "list") | .dK _ => some (.type "dict") | .dT _ => some (.type "dict")
  | .obj C _ => some (.ref C) | _ => none
def D.clv : D → Option Value | .ty n => some (.type n) | .rf C => some (.ref C) | _ => none
def D.clvs : List D → List Value → Prop
  | [], us => us = []
  | d :: ds, us => ∃ u us', us = u :: us' ∧ d.clv = some u ∧ D.clvs ds us'
def mIsi (K : PySem.W.Frag) : SemC
  | [x, .tup cs], Q => ∃ t us b, x.tyv = some t ∧ (∀ C fs, x = .obj C fs → InsT K C) ∧ D.clvs cs us ∧ PySem.W.kitAny K t us = some b ∧ Q false (.bl b)
  | [x, c], Q => ∃ t u b, x.tyv = some t ∧ (∀ C fs, x = .obj C fs → InsT K C) ∧ c.clv = some u ∧ PySem.W.kitOne K t u = some b ∧ Q false (.bl b)
  | _, _ => False
theorem Rdv.ty {Avs Av : Addr → Prop} {H : Hp} {K : PySem.W.Frag} {v : V} {x : D} {t : Value} (r : Rdv Avs Av H v x) (h : x.tyv = some t) (hi : ∀ C fs, x = .obj C fs → InsT K C) : TyX K H v t := by
  rcases r with r | ⟨p, vs, c, rfl, rfl, _, e, q⟩
  · cases r <;> simp only [D.tyv] at h <;> cases h
    · exact .base .non
    · exact .base (.bl _)
    · exact .base (.int _)
    · exact .base (.str _)
    · exact .base (.tup (by assumption))
    · exact .base (.lst (by assumption))
    · exact .base (.dK (by assumption))
    · exact .base (.dT (by assumption))
    · have q := hi _ _ rfl
      exact .base (.ins (by assumption) q.cl q.ha q.hn q.htk q.hm)
  · cases c with
    | lst _ => obtain ⟨ws, rfl, _⟩ := q; simp only [Ct.d, D.tyv] at h; cases h; exact .base (.lst e)
    | dK _ => obtain ⟨ws, rfl, _⟩ := q; simp only [Ct.d, D.tyv] at h; cases h; exact .base (.dK e)
    | dT _ => obtain ⟨ws, rfl, _⟩ := q; simp only [Ct.d, D.tyv] at h; cases h; exact .base (.dT e)
theorem DR.cls {Av : Addr → Prop} {H : Hp} {v : V} {c : D} {u : Value} (r : DR Av H v c) (h : c.clv = some u) : ClsV v u := by
  cases r <;> simp only [D.clv] at h <;> cases h
  · exact .ty _
  · exact .own _
theorem DRs.clss {Av : Addr → Prop} {H : Hp} : ∀ {vs : List V} {cs : List D} {us : List Value}, DRs Av H vs cs → D.clvs cs us → Paired ClsV vs us
  | _, _, _, .nil, h => by simp only [D.clvs] at h; subst h; exact .nil
  | _, _, _, .cons r rs, h => by
    obtain ⟨u, us', rfl, h1, h2⟩ := h
    exact .cons (r.cls h1) (rs.clss h2)
def rIsiA (K : PySem.W.Frag) : List V → Hp → VK → Prop := fun xs H Q => rIsi K xs H Q ∨ rIsiT K xs H Q
theorem call_isiA {X : Cx} : CallR X (.builtin "isinstance") (rIsiA X.K) := call_isi.or call_isiT
theorem sc_isi {g : Gd} {K : PySem.W.Frag} : SC g (rIsiA K) (mIsi K) := by
  intro Avs Av H ds vs Q Qd F r hm hk
  unfold mIsi at hm
  split at hm
  · obtain ⟨v, u, rfl, y, y2⟩ := r.two
    obtain ⟨t, us, b, h1, h2, h3, h4, hq⟩ := hm
    obtain ⟨p, ws, rfl, e, q, _⟩ := y2.tup
    exact .inr ⟨v, p, ws, t, us, b, rfl, e, q.clss h3, y.ty h1 h2, h4, hk _ _ _ H (Kp.refl F.gg) (.old (.bl b)) hq⟩
  · obtain ⟨v, u, rfl, y, y2⟩ := r.two
    obtain ⟨t, us, b, h1, h2, h3, h4, hq⟩ := hm
    rename_i c _
    have z := y2.dr (by cases c <;> simp [D.clv] at h3 ⊢)
    exact .inl ⟨v, u, t, us, b, rfl, z.cls h3, y.ty h1 h2, h4, hk _ _ _ H (Kp.refl F.gg) (.old (.bl b)) hq⟩
  · exact hm.elim

/-! ### a def of the text -/
def startS (N : List Str) (ds : List D) : Sx := ds.map Sl.val ++ List.replicate (N.length - ds.length) .un
theorem start_rel {g : Gd} {Av : Addr → Prop} {H : Hp} {N : List Str} {vs : List V} {ds : List D} (hg : g.G H) (r : DRs Av H vs ds) : Rel g Av (fun _ => False) (fun _ _ => False) H (fun _ => 0) (L2.start N vs) (startS N ds) H := by
  have noown : ∀ (i : Nat) (es : Ct), (startS N ds)[i]? ≠ some (Sl.ow es) := by
    intro i es h
    unfold startS at h
    rcases List.mem_append.mp (List.mem_of_getElem? h) with z | z
    · obtain ⟨d, _, e⟩ := List.mem_map.mp z; cases e
    · have := List.eq_of_mem_replicate z; cases this
  have m : Mv Av (Avo Av (fun _ => False) (fun _ => 0) (startS N ds)) H H := ⟨fun a u n e => ⟨fun z => by
    rcases z with (z | z) | ⟨i, es, h, _⟩
    · exact n z
    · exact z
    · exact noown i es h, e⟩⟩
  refine ⟨by unfold L2.start startS; simp [r.length], Kp.refl hg, fun i d e => ?_, fun i es h => absurd h (noown i es), fun i j es fs h => absurd h (noown i es), fun a h => h.elim, fun v d h => h.elim⟩
  unfold startS at e
  by_cases hl : i < ds.length
  · rw [List.getElem?_append_left (by simpa using hl), List.getElem?_map] at e
    cases q : ds[i]? with
    | none => rw [q] at e; cases e
    | some d' =>
      rw [q] at e
      cases e
      obtain ⟨v, h1, h2⟩ := r.get q
      refine ⟨v, ?_, h2.mv m⟩
      unfold L2.start
      rw [List.getElem?_append_left (by simp [r.length]; exact hl), List.getElem?_map, h1]; rfl
  · rw [List.getElem?_append_right (by simpa using hl)] at e
    have z := List.mem_of_getElem? e
    have := List.eq_of_mem_replicate z
    cases this
section
variable {g : Gd} {P : Program} {w : World} {K : PySem.W.Frag} {mg : Str → Option Value} {base : Heap} {x qual : Str} {st : Stmt} {f : Addr} {fd : FuncData} {N ps : List Str} {k n : Nat} {SP : List D → RQ → Prop} {wb : WPS}
def endD (Q : RQ) : DE := ⟨fun _ => Q false .non, Q, fun _ => False, fun _ => False⟩
theorem run_body {X : Cx} {b : List Stmt} {vs : List V} {H : Hp} {Q : VK} (h : WSs g X b wb) (hs : ∀ ds Q, ds.length = n → SP ds Q → wb (endD Q) (startS N ds)) (sp : ∀ E, spOf g n SP vs H Q E) : ∃ t, PSs X b t ∧ t { nx := fun _ H' => Q .non H', rt := Q } (L2.start N vs) H := by
  obtain ⟨hl, Av, ds, Qd, hg, F, r, hd, hq⟩ := sp E0
  obtain ⟨t, p, q⟩ := h
  refine ⟨t, p, q Av (fun _ => False) (fun _ _ => False) H _ _ _ H _ (endD Qd) hg F (start_rel hg r) (hs ds Qd (by rw [← r.length]; exact hl) hd) ?_⟩
  exact ⟨fun o σ st H' R h => hq false .non .non H' R.kp (.old .non) h, fun fr d v H' k r h => hq fr d v H' k r h, fun o σ st H' R h => h.elim, fun o σ st H' R h => h.elim⟩
/-- a def where the guards are known -/
theorem def_okG (F : Fun K x qual st f fd) (S : FnScope N ps (defScope st)) (hn : ps.length = n)
    (body : ∀ (cdv : Value) (A : Around) (fr : List Env) (s : Shared) (H : Hp) (E : XK), A.guards = some [] → Room k (A.deeper (envOfC qual (defScope st) s.heap.objs.size f cdv)) →
      WSs g (cxOf CX0 P w K mg base N qual (defScope st) f cdv A fr s H E).nox (defBody st) wb)
    (hs : ∀ ds Q, ds.length = n → SP ds Q → wb (endD Q) (startS N ds)) : FnG P w K mg base CX0 (k + 1) f fd ps (spOf g n SP) :=
  Fun.okG F S (fun vs H Q E h => h.1.trans hn.symm) fun cdv A fr s H vs Q E gd hr h => run_body (body cdv A fr s H E gd hr) hs fun _ => h
theorem def_ok (F : Fun K x qual st f fd) (S : FnScope N ps (defScope st)) (hn : ps.length = n)
    (body : ∀ (cdv : Value) (A : Around) (fr : List Env) (s : Shared) (H : Hp) (E : XK), Room k (A.deeper (envOfC qual (defScope st) s.heap.objs.size f cdv)) →
      WSs g (cxOf CX0 P w K mg base N qual (defScope st) f cdv A fr s H E).nox (defBody st) wb)
    (hs : ∀ ds Q, ds.length = n → SP ds Q → wb (endD Q) (startS N ds)) : FnOk P w K mg base CX0 (k + 1) f fd ps (spOf g n SP) :=
  F.ok S (fun vs H Q E h => h.1.trans hn.symm) fun cdv A fr s H vs Q E hr h => run_body (body cdv A fr s H E hr) hs fun _ => h
end
end DW
namespace DW
open PySem PySem.Spec PyProof.Rows L2
open Sem (wp)
open AutoSeq1 (wpAny_loadPart')

/-! ### enumerate(a tuple) -/
theorem enum_tup (t : Addr) (items : Array Value) :
    Meets (Builtin.«enumerate.__new__» ⟨[.type "enumerate", .ref t], []⟩) (fun _ R s => s.heap.IsTuple t items ∧
      R (.ok (.ret (.ref (s.heap.push { cls := .type "tuple_iterator", data := .fields #[.ref t, .int 0 0] }).objs.size)))
        { s with heap := (s.heap.push { cls := .type "tuple_iterator", data := .fields #[.ref t, .int 0 0] }).push { cls := .type "enumerate", data := .fields #[.none, .bool false, .ref s.heap.objs.size, rawInt 0, .none, .none] } }) :=
  .of_wp fun prog w A R s h => by
    obtain ⟨hp, g, d, tk, os⟩ := s
    obtain ⟨ht, h⟩ := h
    have hsub := sub_enumerate
    wp_walk using wpAny_pyIter_tuple ht
    refine wpAny_stack_any fun st => wpAny_pure ?_
    split
    · rename_i c _ _ _ _ _
      cases (c == Value.type "enumerate") <;> (wp_walk using wpAny_pyIter_tuple ht; exact ⟨_, rfl, h⟩)
    · wp_walk using wpAny_pyIter_tuple ht
      exact ⟨_, rfl, h⟩
section
variable {prog : Program} {w : World} {A : Around} {E : Value → Shared → Prop} {s : Shared}
theorem call_enum_tup {t : Addr} {items : Array Value} {Q : Value → Shared → Prop} (ht : s.heap.IsTuple t items)
    (h : ∀ h', IsEnum h' (s.heap.objs.size + 1) s.heap.objs.size 0 .none → h'.IsTupleIter s.heap.objs.size t 0 →
      (∀ b o, s.heap.get? b = some o → h'.get? b = some o) → Q (.ref (s.heap.objs.size + 1)) { s with heap := h' }) :
    wpAny (model prog w) A (call (.type "enumerate") [.ref t]) Q E s := by
  refine callType_new F.called_enumerate (by decide) (F.typeCall_enumerate_1 _) (F.newCall_enumerate_1 _) (fun obj => F.args_object_init_2 obj _) F.entry_enumerate_new (enum_tup t items) ⟨ht, ?_⟩
  let o1 : Obj := { cls := .type "tuple_iterator", data := .fields #[.ref t, .int 0 0] }
  have sz : (s.heap.push o1).objs.size = s.heap.objs.size + 1 := Heap.size_push ..
  show _ ∧ _
  rw [show (s.heap.push { cls := .type "tuple_iterator", data := .fields #[.ref t, .int 0 0] }).objs.size = s.heap.objs.size + 1 from sz]
  have he : IsEnum ((s.heap.push o1).push { cls := .type "enumerate", data := .fields #[.none, .bool false, .ref s.heap.objs.size, rawInt 0, .none, .none] }) (s.heap.objs.size + 1) s.heap.objs.size 0 .none := by
    have q := Heap.get?_push_size (s.heap.push o1) (o := { cls := .type "enumerate", data := .fields #[.none, .bool false, .ref s.heap.objs.size, rawInt 0, .none, .none] }) rfl
    rw [sz] at q; exact q
  exact ⟨⟨_, he, rfl⟩, h _ he ⟨_, Heap.get?_push_of_some _ (Heap.get?_push_size _ rfl), rfl, rfl⟩ fun b o x => Heap.get?_push_of_some _ (Heap.get?_push_of_some _ x)⟩
end
def IteT (K : PySem.W.Frag) (a : Addr) : It :=
  ⟨fun i H => ∃ xs : List V, SqT K H a xs ∧ i < xs.length, fun i H v H' => ∃ T x, v = .ref T ∧ H T = none ∧ H' = upd H T (.tup [.int (i : Nat), x]) ∧ ∀ xs, SqT K H a xs → xs[i]? = some x, fun i H => ∃ xs : List V, SqT K H a xs ∧ i = xs.length⟩
theorem turn_enumT {P : Program} {w : World} {K : PySem.W.Frag} {elts : List Expr} {kk : Nat} {tpos : Pos} (a e it : Addr) (hia : a ≠ it) (hea : e ≠ a) :
    Turn P w K (.Tuple elts kk tpos) (IteT K a) [e, it] e (fun i h => (∃ old, IsEnum h e it ((i : Nat) : Int) old) ∧ h.IsTupleIter it a i ∧ e ≠ it) where
  mem := by simp
  obj := fun i h st b hb => by
    obtain ⟨⟨old, he⟩, ⟨o, ho, hc, hd⟩, _⟩ := st
    rcases (show b = e ∨ b = it by simpa using hb) with rfl | rfl
    · exact ⟨_, he, fun v q => nomatch q⟩
    · exact ⟨o, ho, fun v q => by rw [hd] at q; cases q⟩
  keep := fun i h h' st k => let ⟨⟨old, he⟩, hi, hne⟩ := st; ⟨⟨old, k e (by simp) _ he⟩, hi.at fun o q => k it (by simp) o q, hne⟩
  item := by
    intro X hP hw hK hc i pins s σ H E I hf st hg
    subst hP hw hK
    obtain ⟨⟨old, he⟩, hit, hne⟩ := st
    obtain ⟨xs, hq, hlx⟩ := hg
    obtain ⟨its, rv, p, hz⟩ := I.tuple hq
    have hx : xs[i]? = some xs[i] := List.getElem?_eq_getElem hlx
    generalize xs[i] = x at hx
    obtain ⟨u, hu, ru⟩ := rv.get hx
    have hel : e < s.heap.objs.size := Heap.lt_size he
    have hil : it < s.heap.objs.size := by obtain ⟨_, q, _⟩ := hit; exact Heap.lt_size q
    have hlt : i < its.toArray.size := by
      have := (List.getElem?_eq_some_iff.mp hu).1
      simpa using this
    have Dr := Draws.tuple (prog := X.prog) (w := X.w) (A := X.A.in1) (show X.A.in1.handled = none from I.ok.hd hc) it a hia its.toArray
    refine wpAny_pyNext_enum_itemC Dr he ⟨hit, show s.heap.IsTuple a its.toArray from p⟩ hlt hne (by simp [hne, hea]) fun y h' tk hy ho hst hT hsz hk => ?_
    have ey : y = u := by
      have q : its.toArray[i]? = some u := by simpa using hu
      rw [show its.toArray[i]? = some y from hy] at q; exact Option.some.inj q
    subst ey
    refine ⟨_, rfl, wpAny_letOwnedTupleGo_enum (s := { s with heap := h', toks := tk + 1 }) ho fun h'' he' sb => ?_⟩
    have hT2 : h''.get? s.heap.objs.size = some { cls := .type "tuple", data := .seq #[.int i tk, y] } := (sb.2 _ (Nat.ne_of_gt hel)).trans hT
    have new : ObjOk X.prog X.w (upd H s.heap.objs.size (.tup [.int (i : Nat), x])) h'' s.heap.objs.size (.tup [.int (i : Nat), x]) :=
      ⟨by show 2 ≤ sizeLine; decide, [.int i tk, y], .cons ⟨_, rfl⟩ (.cons ru .nil), ⟨_, hT2, rfl, _, rfl⟩⟩
    have I1 : Inv X pins σ (upd H s.heap.objs.size (.tup [.int (i : Nat), x])) { s with heap := h'', toks := tk + 1 } := by
      refine I.turnedNew (ch := [e, it]) (fun b ob hb q => ?_) hf (Nat.le_refl _) new
      have n1 : b ≠ e := fun z => hb (by simp [z])
      have n2 : b ≠ it := fun z => hb (by simp [z])
      exact (sb.2 b n1).trans (hk b ob n1 n2 q)
    refine ⟨.ref s.heap.objs.size, _, I1, rfl, ⟨_, x, rfl, I.hok.fresh (Nat.le_refl _), rfl, fun ys hy => by rw [I.tuple_inj hy hq]; exact hx⟩, ⟨⟨y, ?_⟩, hst.1.at fun o q => (sb.2 it (Ne.symm hne)).trans q, hne⟩, fun b hb => ?_⟩
    · rw [show ((i + 1 : Nat) : Int) = (i : Int) + 1 by omega]; exact he'
    · have hb' : b < s.heap.objs.size := by
        rcases (show b = e ∨ b = it by simpa using hb) with rfl | rfl
        · exact hel
        · exact hil
      rw [upd_ne (Nat.ne_of_lt hb')]
      exact (hf b hb).1
  done := by
    intro X hP hw hK hc i pins s σ H E I hf st hg
    subst hP hw hK
    obtain ⟨⟨old, he⟩, hit, hne⟩ := st
    obtain ⟨xs, hq, hx⟩ := hg
    obtain ⟨its, rv, p, hz⟩ := I.tuple hq
    obtain ⟨f0, f1, f2, f3, f4, f5⟩ := hf it (by simp)
    have hn : its.toArray.size = i := by rw [List.size_toArray, ← rv.length]; exact hx.symm
    have Dr := Draws.tuple (prog := X.prog) (w := X.w) (A := X.A.in1) (show X.A.in1.handled = none from I.ok.hd hc) it a hia its.toArray
    rw [hn] at Dr
    exact wpAny_pyNext_enum_endD Dr he ⟨hit, show s.heap.IsTuple a its.toArray from p⟩ fun h' eb => ⟨rfl, I.turned (t' := s.toks) (fun b o hb q => eb b o hb q) f0 f1 f3 f4 f5⟩
  self := fun A i s Q E st h => let ⟨⟨_, he⟩, _⟩ := st; wpAny_pyIter_enum he h
/-- an iterator that stands alone in its record -/
theorem fp_one {X : Cx} {pins : List (Addr × Obj)} {σ : L2.St} {H : Hp} {s1 : Shared} (I1 : Inv X pins σ H s1) : ∀ b ∈ [s1.heap.objs.size], FpOk X pins H b := by
  intro b hb
  cases (show b = s1.heap.objs.size by simpa using hb)
  have z : s1.heap.objs.size ≤ s1.heap.objs.size := Nat.le_refl _
  exact I1.fpOk z (I1.hok.fresh z)
theorem fp_two {X : Cx} {pins : List (Addr × Obj)} {σ : L2.St} {H : Hp} {s1 : Shared} (I1 : Inv X pins σ H s1) : ∀ b ∈ [s1.heap.objs.size + 1, s1.heap.objs.size], FpOk X pins H b := by
  intro b hb
  have z : s1.heap.objs.size ≤ b := by
    rcases (show b = s1.heap.objs.size + 1 ∨ b = s1.heap.objs.size by simpa using hb) with h | h
    · rw [h]; exact Nat.le_succ _
    · rw [h]; exact Nat.le_refl _
  exact I1.fpOk z (I1.hok.fresh z)
/-- a list or a tuple, walked -/
def iSeq (K : PySem.W.Frag) (tl : TE) : TI := fun σ H R => tl σ H fun x H1 => (∃ a xs, x = .ref a ∧ H1 a = some (.lst xs) ∧ R (Itl K a) H1) ∨ ∃ a xs, x = .ref a ∧ H1 a = some (.tup xs) ∧ R (Itt K a) H1
theorem pi_seq {X : Cx} {tg l : Expr} {tl : TE} (hl : PE X l tl) : PI X tg l (iSeq X.K tl) := by
  constructor
  intro pins s σ H R I h
  refine thn (hl.run pins s σ H _ I h) ?_
  rintro v s1 ⟨x, H1, I1, r1, ⟨a, xs, rfl, hq, q⟩ | ⟨a, xs, rfl, hq, q⟩⟩
  · cases r1
    obtain ⟨its, rv, p, hz⟩ := I1.list (.inl (.inl hq))
    apply wpAny_pyIter_list p.isList
    exact ⟨_, [s1.heap.objs.size], _, _, H1, rfl, I1.kept (t' := s1.toks) (fun b o e => Heap.get?_push_of_some _ e), turn_list a _, ⟨_, Heap.get?_push_size _ rfl, rfl, rfl⟩, fp_one I1, q⟩
  · cases r1
    obtain ⟨its, rv, p, hz⟩ := I1.tuple (.inl (.inl hq))
    apply wpAny_pyIter_tuple (show s1.heap.IsTuple a its.toArray from p)
    exact ⟨_, [s1.heap.objs.size], _, _, H1, rfl, I1.kept (t' := s1.toks) (fun b o e => Heap.get?_push_of_some _ e), turn_tuple a _, ⟨_, Heap.get?_push_size _ rfl, rfl, rfl⟩, fp_one I1, q⟩
/-- enumerate of a list or a tuple -/
def iEnumA (K : PySem.W.Frag) (ta : TA) : TI := fun σ H R => ta σ H fun vs H1 => (∃ a xs, vs = [.ref a] ∧ H1 a = some (.lst xs) ∧ R (Ite K a) H1) ∨ ∃ a xs, vs = [.ref a] ∧ H1 a = some (.tup xs) ∧ R (IteT K a) H1
theorem pi_enumA {X : Cx} {e : Expr} {ta : TA} {p pos tpos : Pos} {elts : List Expr} {kk : Nat} (hg : Gl X "enumerate") (hm : X.mg "enumerate" = none) (ha : PA X [e] ta) (hs : starEach [e] X.env = [(false, eval e X.env)] := by rfl) :
    PI X (.Tuple elts kk tpos) (.Call (.Name "enumerate" p) [e] [] pos) (iEnumA X.K ta) := by
  constructor
  intro pins s σ H R I h
  refine Call_ (ld_blt I hg hm boot_enumerate (PyProof.Rows.callWith_type1 (thn (ha.run pos pins s σ H _ I h) ?_) hs rfl))
  rintro us s1 ⟨vs, H1, I1, r1, ⟨a, xs, rfl, hq, q⟩ | ⟨a, xs, rfl, hq, q⟩⟩
  · obtain ⟨u, rfl, ru⟩ := vals1 r1
    cases ru
    obtain ⟨its, rv, p', hz⟩ := I1.list (.inl (.inl hq))
    refine call_enumerate_list p'.isList fun h' he hit hsz hk => wpAny_pyIter_enum he ?_
    exact ⟨_, [s1.heap.objs.size + 1, s1.heap.objs.size], _, _, H1, rfl, I1.kept (t' := s1.toks) hk, turn_enum a _ _, ⟨⟨.none, he⟩, hit, Nat.succ_ne_self _⟩, fp_two I1, q⟩
  · obtain ⟨u, rfl, ru⟩ := vals1 r1
    cases ru
    obtain ⟨its, rv, p', hz⟩ := I1.tuple (.inl (.inl hq))
    have la : a < s1.heap.objs.size := I1.hok.lt hq
    refine call_enum_tup (show s1.heap.IsTuple a its.toArray from p') fun h' he hit hk => wpAny_pyIter_enum he ?_
    exact ⟨_, [s1.heap.objs.size + 1, s1.heap.objs.size], _, _, H1, rfl, I1.kept (t' := s1.toks) hk, turn_enumT a _ _ (Nat.ne_of_lt la) (Nat.ne_of_gt (Nat.lt_succ_of_lt la)), ⟨⟨.none, he⟩, hit, Nat.succ_ne_self _⟩, fp_two I1, q⟩
section
variable {g : Gd} {X : Cx} {tg e : Expr} {w : WP} {p pos : Pos}
def mSeq : D → (List D → Prop) → Prop | .lst ds, Q => Q ds | .tup ds, Q => Q ds | _, _ => False
theorem wi_seq (h : WE g X e w) : WI g X tg e (fun st Q => w st fun _ d => mSeq d Q) := by
  obtain ⟨t, p, q⟩ := h
  refine ⟨_, pi_seq p, fun Av B gh H0 o σ st H R Qd hg F Rl hw hk => ?_⟩
  refine q Av B gh H0 o σ st H _ _ hg F Rl hw fun fr d v H1 k1 r1 hd => ?_
  cases d <;> simp only [mSeq] at hd
  case lst ds =>
    have r := r1.dr
    cases r with
    | lst n e rs => exact .inl ⟨_, _, rfl, e, hk ds _ _ H1 k1 (oneR (.lst n e rs)) walk_list hd⟩
  case tup ds =>
    have r := r1.dr
    cases r with
    | tup n e rs => exact .inr ⟨_, _, rfl, e, hk ds _ _ H1 k1 (oneR (.tup n e rs)) walk_tup hd⟩
def enumD (ds : List D) : List D := ds.zipIdx.map fun p => D.tup [.int (p.2 : Int), p.1]
theorem enumD_get {ds : List D} {i : Nat} {d : D} (h : (enumD ds)[i]? = some d) : ∃ x, ds[i]? = some x ∧ d = .tup [.int (i : Int), x] := by
  unfold enumD at h
  rw [List.getElem?_map, List.getElem?_zipIdx] at h
  cases q : ds[i]? with
  | none => rw [q] at h; cases h
  | some x =>
    rw [q] at h
    exact ⟨x, rfl, by simpa using (Option.some.inj h).symm⟩
theorem enumD_len {ds : List D} : (enumD ds).length = ds.length := by unfold enumD; simp
theorem Fit.pair {Avs Av : Addr → Prop} {H : Hp} (F : Fit g Avs Av H) {x : V} {d : D} {i : Int} {T : Addr} (r : DR Avs H x d) (hT : H T = none) : Kp g H (upd H T (.tup [.int i, x])) ∧ DR Avs (upd H T (.tup [.int i, x])) (.ref T) (.tup [.int i, d]) := by
  obtain ⟨k, z⟩ := F.tup (vs := [.int i, x]) (ds := [.int i, d]) (.cons (.int i) (.cons r .nil)) hT
  exact ⟨k, z.dr⟩
def mEnum : D → (List D → Prop) → Prop | .lst ds, Q => Q (enumD ds) | .tup ds, Q => Q (enumD ds) | _, _ => False
theorem walk_enum {K : PySem.W.Frag} {a : Addr} {ds : List D} : Walk g (Ite K a) (one (.ref a) (.lst ds)) (enumD ds) := by
  intro Avs Av H F r0
  have r := r0 _ _ ⟨rfl, rfl⟩
  cases r with
  | lst n e rs =>
    rename_i vs
    refine ⟨⟨vs, .inl (.inl e), by rw [rs.length, enumD_len]; exact Nat.le_refl _⟩, fun i d hi => ?_⟩
    obtain ⟨x, hx, rfl⟩ := enumD_get hi
    obtain ⟨v, hv, rv⟩ := rs.get hx
    refine ⟨⟨vs, v, .inl (.inl e), hv⟩, fun y H3 hy => ?_⟩
    obtain ⟨T, z, rfl, hT, rfl, hz⟩ := hy
    have ez := hz vs (.inl (.inl e))
    rw [hv] at ez; cases ez
    exact F.pair rv hT
theorem walk_enumT {K : PySem.W.Frag} {a : Addr} {ds : List D} : Walk g (IteT K a) (one (.ref a) (.tup ds)) (enumD ds) := by
  intro Avs Av H F r0
  have r := r0 _ _ ⟨rfl, rfl⟩
  cases r with
  | tup n e rs =>
    rename_i vs
    refine ⟨⟨vs, .inl (.inl e), by rw [enumD_len]; exact rs.length.symm⟩, fun i d hi => ?_⟩
    obtain ⟨x, hx, rfl⟩ := enumD_get hi
    obtain ⟨v, hv, rv⟩ := rs.get hx
    refine ⟨⟨vs, .inl (.inl e), (List.getElem?_eq_some_iff.mp hv).1⟩, fun y H3 hy => ?_⟩
    obtain ⟨T, z, rfl, hT, rfl, hz⟩ := hy
    have ez := hz vs (.inl (.inl e))
    rw [hv] at ez; cases ez
    exact F.pair rv hT
theorem wi_enum {elts : List Expr} {kk : Nat} {tpos : Pos} (h : WE g X e w) (hg : Gl X "enumerate") (hm : X.mg "enumerate" = none) (hs : starEach [e] X.env = [(false, eval e X.env)] := by rfl) (na : starEach [e] X.env = (false, eval e X.env) :: starEach [] X.env := by rfl) :
    WI g X (.Tuple elts kk tpos) (.Call (.Name "enumerate" p) [e] [] pos) (fun st Q => w st fun _ d => mEnum d Q) := by
  obtain ⟨t, pe, q⟩ := h
  refine ⟨_, pi_enumA hg hm (pa_cons pe pa_nil na) hs, fun Av B gh H0 o σ st H R Qd hg F Rl hw hk => ?_⟩
  refine q Av B gh H0 o σ st H _ _ hg F Rl hw fun fr d v H1 k1 r1 hd => ?_
  cases d <;> simp only [mEnum] at hd
  case lst ds =>
    have r := r1.dr
    cases r with
    | lst n e rs => exact .inl ⟨_, _, rfl, e, hk _ _ _ H1 k1 (oneR (.lst n e rs)) walk_enum hd⟩
  case tup ds =>
    have r := r1.dr
    cases r with
    | tup n e rs => exact .inr ⟨_, _, rfl, e, hk _ _ _ H1 k1 (oneR (.tup n e rs)) walk_enumT hd⟩
end

/-! ### target = e, any target -/
theorem ws_asg {g : Gd} {X : Cx} {s : Stmt} {tg e : Expr} {we : WP} {js : List Nat} {b : WPG} (h : WE g X e we) (ht : WG g X tg js b) (hp : ∀ te tt, PE X e te → PG X tg tt → PS X s (tAsg te tt)) : WS g X s (fun De st => we st fun _ d => b d st De.nx) := by
  obtain ⟨t, p, q⟩ := h
  obtain ⟨t2, p2, q2⟩ := ht
  refine ⟨_, hp t t2 p p2, fun Av B gh H0 o σ st H E De hg F R hw K => ?_⟩
  refine q Av B gh H0 o σ st H _ _ hg F R hw fun fr d v H1 k1 r1 hd => ?_
  exact q2 Av B gh H0 o σ st H1 v d _ _ hg F (R.mono F k1) r1.dr hd fun σ' st' R' _ _ h => K.nx o σ' st' H1 R' h

/-! ### sorted(set(t)), t a tuple of ints -/
def rSetT (K : PySem.W.Frag) (w : World) : List V → Hp → VK → Prop := fun xs H Q => ∃ (p : Addr) (ns : List Int), xs = [V.ref p] ∧ SqT K H p (ns.map V.int) ∧ ns.length < 60 ∧ ∀ (q : Addr) (c : Nat), H q = none → c ≤ ns.length → Q (.ref q) (upd H q (SetO w q (fun j => decide (j ∈ ns)) c))
theorem cr_setT {X : Cx} (hc : X.calm = true) : CallR X (.type "set") (rSetT X.K X.w) := by
  intro pins s σ H xs us Q I r h
  obtain ⟨p, ns, rfl, hq, hl, q⟩ := h
  obtain ⟨u, rfl, ru⟩ := vals1 r
  cases ru
  obtain ⟨its, rv, pt, hz⟩ := I.tuple hq
  have hi : IntsAre its.toArray.toList ns := by simpa using (Vals.ints rv)
  refine call_set_tupI ns (I.ok.hd hc) (show s.heap.IsTuple p its.toArray from pt) hi (by unfold scanBound; omega) fun h' tk c R1 hcn k => ?_
  have fr : H s.heap.objs.size = none := I.hok.fresh (Nat.le_refl _)
  exact ⟨.ref _, _, I.laid (t' := tk) k (Nat.le_refl _) (setO_new R1), rfl, q _ c fr hcn⟩
section
variable {g : Gd} {X : Cx} {e : Expr} {w : WP} {p p2 pos pos2 : Pos}
def mSortSet : D → RQ → Prop := fun d Q => ∃ ns : List Int, d = .tup (ns.map D.int) ∧ ns.length < 60 ∧ ∀ ms : List Int, ms.Pairwise (· < ·) → (∀ k, k ∈ ms ↔ k ∈ ns) → Q true (.lst (ms.map D.int))
theorem we_sortedSet (h : WE g X e w) (hc : X.calm = true) (hg : Gl X "sorted") (hm : X.mg "sorted" = none) (hg2 : Gl X "set") (hm2 : X.mg "set" = none)
    (na : starEach [e] X.env = (false, eval e X.env) :: starEach [] X.env := by rfl) (nb : starEach [.Call (.Name "set" p2) [e] [] pos2] X.env = (false, eval (.Call (.Name "set" p2) [e] [] pos2) X.env) :: starEach [] X.env := by rfl) :
    WE g X (.Call (.Name "sorted" p) [.Call (.Name "set" p2) [e] [] pos2] [] pos) (fun st Q => w st fun _ d => mSortSet d Q) := by
  obtain ⟨t, pe, q⟩ := h
  have p1 : PE X (.Call (.Name "set" p2) [e] [] pos2) _ := pe_callTy (cr_setT hc) hg2 hm2 (by decide +kernel) (pa_cons pe pa_nil na) (he := na)
  refine ⟨_, pe_callB (cr_sortedSet hc) hg hm (by decide +kernel) (pa_cons p1 pa_nil nb) (he := nb), fun Av B gh H0 o σ st H Q Qd hg F R hw hk => ?_⟩
  refine q Av B gh H0 o σ st H _ _ hg F R hw fun fr d v H1 k1 r1 hd => ?_
  obtain ⟨ns, rfl, hl, hd⟩ := hd
  have r := r1.dr
  cases r with
  | tup n ea rs =>
    rename_i a vs
    cases rs.ints
    refine ⟨a, ns, rfl, .inl (.inl ea), hl, fun s c hs hc2 => ⟨s, _, c, rfl, upd_same, by omega, fun ms u h1 h2 h3 hu => ?_⟩⟩
    have kS : Kp g H1 (upd H1 s (SetO X.w s (fun j => decide (j ∈ ns)) c)) := Kp.new k1.2 hs
    have R2 := (R.mono F k1).mono F kS
    obtain ⟨k, z⟩ := (R2.fit F).lst (drs_ints ms) hu
    refine hk true _ _ _ ((k1.trans kS).trans k) (z.back R.kp.2 (k1.trans kS)) (hd ms h1 fun j => ?_)
    rw [h2 j, decide_eq_true_eq]
end
end DW
namespace DW
open PySem PySem.Spec PyProof.Rows L2

/-! ### how the loops are read -/
theorem wLc_map {α : Type} {b : WPG} {tt : WPT} {te : WP} {s0 : Sx} (inj : α → D) (p : α → Bool) (f : α → D) : ∀ (xs : List α) (Q : List D → Prop),
    (∀ x ∈ xs, ∀ (R1 : D → Prop) (R0 : Prop), (if p x = true then R1 (f x) else R0) → b (inj x) s0 fun st => tt st fun c => if c = true then te st fun _ y => R1 y else R0) →
    Q ((xs.filter p).map f) → wLc b tt te s0 (xs.map inj) Q
  | [], Q, _, h => h
  | x :: xs, Q, hd, h => by
    show b (inj x) s0 _
    refine hd x List.mem_cons_self (fun y => wLc b tt te s0 (xs.map inj) fun ys => Q (y :: ys)) (wLc b tt te s0 (xs.map inj) Q) ?_
    cases e : p x with
    | true =>
      simp only [if_true]
      refine wLc_map inj p f xs _ (fun y hy => hd y (List.mem_cons_of_mem _ hy)) ?_
      simpa [List.filter_cons, e] using h
    | false =>
      simp only [Bool.false_eq_true, if_false]
      refine wLc_map inj p f xs _ (fun y hy => hd y (List.mem_cons_of_mem _ hy)) ?_
      simpa [List.filter_cons, e] using h
/-- no test -/
theorem wLc_all {α : Type} {b : WPG} {te : WP} {s0 : Sx} (inj : α → D) (f : α → D) : ∀ (xs : List α) (Q : List D → Prop),
    (∀ x ∈ xs, ∀ (R1 : D → Prop), R1 (f x) → b (inj x) s0 fun st => te st fun _ y => R1 y) →
    Q (xs.map f) → wLc b (fun _ Q => Q true) te s0 (xs.map inj) Q
  | [], Q, _, h => h
  | x :: xs, Q, hd, h => by
    show b (inj x) s0 _
    exact hd x List.mem_cons_self (fun y => wLc b (fun _ Q => Q true) te s0 (xs.map inj) fun ys => Q (y :: ys)) (wLc_all inj f xs _ (fun y hy => hd y (List.mem_cons_of_mem _ hy)) h)
/-- a test that is drawn -/
theorem wLc_some {α : Type} {b : WPG} {tt : WPT} {te : WP} {s0 : Sx} (inj : α → D) (f : α → D) : ∀ (xs : List α) (Q : List D → Prop),
    (∀ x ∈ xs, ∀ (R1 : D → Prop) (R0 : Prop), R1 (f x) → R0 → b (inj x) s0 fun st => tt st fun c => if c = true then te st fun _ y => R1 y else R0) →
    (∀ ys : List α, ys.Sublist xs → Q (ys.map f)) → wLc b tt te s0 (xs.map inj) Q
  | [], Q, _, h => h [] (List.Sublist.refl _)
  | x :: xs, Q, hd, h => by
    show b (inj x) s0 _
    refine hd x List.mem_cons_self (fun y => wLc b tt te s0 (xs.map inj) fun ys => Q (y :: ys)) (wLc b tt te s0 (xs.map inj) Q) ?_ ?_
    · exact wLc_some inj f xs _ (fun y hy => hd y (List.mem_cons_of_mem _ hy)) fun ys hy => h (x :: ys) (hy.cons_cons x)
    · exact wLc_some inj f xs _ (fun y hy => hd y (List.mem_cons_of_mem _ hy)) fun ys hy => h ys (hy.cons x)
theorem wFor_inv {b : WPG} {body : WPS} {De : DE} (I : Nat → Sx → Prop) (hn : ∀ st n, I n st → True := fun _ _ _ => trivial) : ∀ (ds : List D) (k : Nat) (st : Sx), I k st →
    (∀ i d, ds[i]? = some d → ∀ st, I (k + i) st → ∀ (K : Sx → Prop), (∀ st', I (k + i + 1) st' → K st') → b d st fun st' => body ⟨K, De.rt, De.nx, K⟩ st') → (∀ st, I (k + ds.length) st → De.nx st) → wFor b body De ds st
  | [], k, st, h, _, he => he st h
  | d :: ds, k, st, h, hs, he => by
    show b d st _
    refine hs 0 d rfl st h _ fun st' h' => ?_
    refine wFor_inv I hn ds (k + 1) st' h' (fun i d hd st hi K hK => ?_) (fun st hi => he st (by rw [List.length_cons]; rwa [show k + (ds.length + 1) = k + 1 + ds.length by omega]))
    exact hs (i + 1) d (by simpa using hd) st (by rwa [show k + (i + 1) = k + 1 + i by omega]) K fun st' z => hK st' (by rwa [show k + 1 + i + 1 = k + (i + 1) + 1 by omega])

/-! ### the defs of a text -/
structure Dfn (K : PySem.W.Frag) (mg : Str → Option Value) (x qual : Str) (st : Stmt) (ps : List Str) (f : Addr) (fd : FuncData) : Prop where
  F : Fun K x qual st f fd
  b : Binds K fd ps []
  m : mg x = some (.ref f)
structure Mth (K : PySem.W.Frag) (C : Addr) (x qual : Str) (st : Stmt) (ps : List Str) (f : Addr) (fd : FuncData) : Prop where
  F : Fun K x qual st f fd
  b : Binds K fd ps []
  m : Meth K C x f
structure Bltn (mg : Str → Option Value) : Prop where
  len : mg "len" = none
  abs : mg "abs" = none
  int : mg "int" = none
  bool : mg "bool" = none
  str : mg "str" = none
  list : mg "list" = none
  tuple : mg "tuple" = none
  set : mg "set" = none
  range : mg "range" = none
  sorted : mg "sorted" = none
  repr : mg "repr" = none
  isinstance : mg "isinstance" = none
  enumerate : mg "enumerate" = none
  zip : mg "zip" = none
  any : mg "any" = none
  all : mg "all" = none
  sum : mg "sum" = none
  max : mg "max" = none
  min : mg "min" = none

/-! ### data of people and groups -/
def tI (xs : List Int) : D := .tup (xs.map D.int)
def lI (xs : List Int) : D := .lst (xs.map D.int)
def tT (rows : List (List Int)) : D := .tup (rows.map tI)
def lT (rows : List (List Int)) : D := .lst (rows.map tI)
def Gp (n : Int) (xs : List Int) : Prop := xs.Pairwise (· < ·) ∧ ∀ x ∈ xs, 0 ≤ x ∧ x < n
def rgI (n : Int) : List Int := (List.range n.toNat).map fun (i : Nat) => (i : Int)
theorem rgD_rgI (n : Int) : rgD 0 n = (rgI n).map D.int := by
  unfold rgD rgI
  rw [List.map_map, show (n - 0).toNat = n.toNat by omega]
  refine List.map_congr_left fun i _ => ?_
  show D.int (0 + (i : Int)) = D.int (i : Int)
  rw [Int.zero_add]
theorem mem_rgI {n k : Int} : k ∈ rgI n ↔ 0 ≤ k ∧ k < n := by
  unfold rgI
  rw [List.mem_map]
  constructor
  · rintro ⟨i, hi, rfl⟩
    rw [List.mem_range] at hi
    omega
  · rintro ⟨h0, h1⟩
    exact ⟨k.toNat, List.mem_range.mpr (by omega), by omega⟩
theorem rgI_lt (n : Int) : (rgI n).Pairwise (· < ·) := by
  unfold rgI
  rw [List.pairwise_map]
  exact List.pairwise_lt_range.imp fun h => by omega
theorem rgI_len (n : Int) : (rgI n).length = n.toNat := by unfold rgI; simp
theorem gp_rg (n : Int) : Gp n (rgI n) := ⟨rgI_lt n, fun x hx => mem_rgI.mp hx⟩
theorem Gp.sub {n : Int} {xs ys : List Int} (h : Gp n xs) (s : ys.Sublist xs) : Gp n ys := ⟨h.1.sublist s, fun x hx => h.2 x (s.subset hx)⟩
theorem Gp.filter {n : Int} {xs : List Int} (h : Gp n xs) (p : Int → Bool) : Gp n (xs.filter p) := h.sub List.filter_sublist
/-- lists that rise strictly are known by their members -/
theorem rise_uniq : ∀ {xs ys : List Int}, xs.Pairwise (· < ·) → ys.Pairwise (· < ·) → (∀ k, k ∈ xs ↔ k ∈ ys) → xs = ys
  | [], [], _, _, _ => rfl
  | [], y :: ys, _, _, h => absurd ((h y).mpr List.mem_cons_self) (by simp)
  | x :: xs, [], _, _, h => absurd ((h x).mp List.mem_cons_self) (by simp)
  | x :: xs, y :: ys, hx, hy, h => by
    rw [List.pairwise_cons] at hx hy
    have e : x = y := by
      have h1 := (h x).mp List.mem_cons_self
      have h2 := (h y).mpr List.mem_cons_self
      rcases List.mem_cons.mp h1 with z | z
      · exact z
      · rcases List.mem_cons.mp h2 with z2 | z2
        · exact z2.symm
        · have a := hy.1 x z
          have b := hx.1 y z2
          omega
    subst e
    rw [rise_uniq hx.2 hy.2 fun k => ?_]
    constructor
    · intro hk
      rcases List.mem_cons.mp ((h k).mp (List.mem_cons_of_mem _ hk)) with z | z
      · subst z; exact absurd (hx.1 k hk) (by omega)
      · exact z
    · intro hk
      rcases List.mem_cons.mp ((h k).mpr (List.mem_cons_of_mem _ hk)) with z | z
      · subst z; exact absurd (hy.1 k hk) (by omega)
      · exact z
theorem gp_len {n : Int} {xs : List Int} (h : Gp n xs) (hn : n ≤ 7) : xs.length ≤ 7 := by
  have key : ∀ (m : Nat) (xs : List Int), xs.Pairwise (· < ·) → (∀ x ∈ xs, 0 ≤ x ∧ x < (m : Int)) → xs.length ≤ m := by
    intro m
    induction m with
    | zero =>
      intro xs _ hb
      cases xs with
      | nil => simp
      | cons x xs => have := hb x List.mem_cons_self; omega
    | succ m ih =>
      intro xs hp hb
      have h1 := ih (xs.filter fun x => x < (m : Int)) (hp.sublist List.filter_sublist) fun x hx => by
        have := List.mem_filter.mp hx
        exact ⟨(hb x this.1).1, by simpa using this.2⟩
      have h2 : (xs.filter fun x => !(decide (x < (m : Int)))).length ≤ 1 := by
        have hq : (xs.filter fun x => !(decide (x < (m : Int)))).Pairwise (· < ·) := hp.sublist List.filter_sublist
        cases q : (xs.filter fun x => !(decide (x < (m : Int)))) with
        | nil => simp
        | cons a r =>
          cases r with
          | nil => simp
          | cons c r =>
            rw [q, List.pairwise_cons] at hq
            have a1 : a < c := hq.1 c List.mem_cons_self
            have m1 := List.mem_filter.mp (q ▸ List.mem_cons_self : a ∈ xs.filter fun x => !(decide (x < (m : Int))))
            have m2 := List.mem_filter.mp (q ▸ List.mem_cons_of_mem _ List.mem_cons_self : c ∈ xs.filter fun x => !(decide (x < (m : Int))))
            have b1 := hb a m1.1
            have b2 := hb c m2.1
            have z1 : ¬ a < (m : Int) := by simpa using m1.2
            omega
      have h3 : ∀ ys : List Int, ys.length = (ys.filter fun x => decide (x < (m : Int))).length + (ys.filter fun x => !(decide (x < (m : Int)))).length := by
        intro ys
        induction ys with
        | nil => rfl
        | cons y ys ih =>
          simp only [List.filter_cons, List.length_cons]
          cases decide (y < (m : Int)) <;> simp <;> omega
      have h3 := h3 xs
      omega
  exact key 7 xs h.1 fun x hx => ⟨(h.2 x hx).1, by have := (h.2 x hx).2; omega⟩
theorem in_ints (x : Int) : ∀ xs : List Int, inV (D.int x).fv ((xs.map D.int).map D.fv) = xs.contains x
  | [] => rfl
  | y :: xs => by
    have ih := in_ints x xs
    simp only [inV, List.map_cons, List.any_cons, List.contains_cons, D.fv] at ih ⊢
    rw [ih]
    congr 1
    show (y == x) = (x == y)
    by_cases h : x = y
    · subst h; rfl
    · rw [beq_eq_false_iff_ne.mpr h, beq_eq_false_iff_ne.mpr (Ne.symm h)]
theorem flat_ints : ∀ xs : List Int, (xs.map D.int).all D.flat = true
  | [] => rfl
  | x :: xs => by simp [D.flat, flat_ints xs]
theorem small_line {n : Nat} (h : n ≤ 1000000) : n < sizeLine := by rw [sizeLine_eq]; omega
theorem le_line {n : Nat} (h : n ≤ 1000000) : n ≤ sizeLine := Nat.le_of_lt (small_line h)
/-! ### the formulas, step by step -/
section
variable {d e : D} {ds es : List D} {st : Sx} {s : Sl} {i : Nat} {Q : RQ} {a b n : Int} {k : Bool}
theorem rdS_0 : rdS (Sl.val d :: st) 0 Q = Q false d := rfl
theorem rdS_s : rdS (s :: st) (i + 1) Q = rdS st i Q := rfl
theorem rdO_0 : rdO (Sl.val d :: st) 0 Q = Q false d := rfl
theorem rdO_1 : rdO (Sl.own ds :: st) 0 Q = Q false (.lst ds) := rfl
theorem rdO_s : rdO (s :: st) (i + 1) Q = rdO st i Q := rfl
theorem mAdd_i : mAdd (.int a) (.int b) Q = Q false (.int (a + b)) := rfl
theorem mAdd_b : mAdd (.int a) (.bl k) Q = Q false (.int (a + b2i k)) := rfl
theorem mAdd_l : mAdd (.lst ds) (.lst es) Q = (ds.length + es.length ≤ sizeLine ∧ Q true (.lst (ds ++ es))) := rfl
theorem mAdd_t : mAdd (.tup ds) (.tup es) Q = (ds.length + es.length ≤ sizeLine ∧ Q false (.tup (ds ++ es))) := rfl
theorem mI_i {f : Int → Int → Int} : mI f (.int a) (.int b) Q = Q false (.int (f a b)) := rfl
theorem mIC_i {c : Int → Int → Prop} {f : Int → Int → Int} : mIC c f (.int a) (.int b) Q = (c a b ∧ Q false (.int (f a b))) := rfl
theorem mB_i {f : Int → Int → Bool} : mB f (.int a) (.int b) Q = Q false (.bl (f a b)) := rfl
theorem mLen_l : mLen [.lst ds] Q = Q false (.int ds.length) := rfl
theorem mLen_t : mLen [.tup ds] Q = Q false (.int ds.length) := rfl
theorem mList_l : mList [.lst ds] Q = Q true (.lst ds) := rfl
theorem mList_t : mList [.tup ds] Q = Q true (.lst ds) := rfl
theorem mTuple_l : mTuple [.lst ds] Q = Q false (.tup ds) := rfl
theorem mTuple_t : mTuple [.tup ds] Q = Q false (.tup ds) := rfl
theorem mInt1_i : mInt1 [.int a] Q = Q false (.int a) := rfl
theorem mInt1_b : mInt1 [.bl k] Q = Q false (.int (if k then 1 else 0)) := rfl
theorem mAbs_i : mAbs [.int a] Q = Q false (.int (if a < 0 then -a else a)) := rfl
theorem mIx_l : mIx (.lst ds) (.int a) Q = ∃ d, atI ds a = some d ∧ Q false d := rfl
theorem mIx_t : mIx (.tup ds) (.int a) Q = ∃ d, atI ds a = some d ∧ Q false d := rfl
theorem mSl_l {lo hi : Option Int} : mSl (.lst ds) lo hi Q = Q true (.lst (cutD ds lo hi)) := rfl
theorem mSl_t {lo hi : Option Int} : mSl (.tup ds) lo hi Q = Q false (.tup (cutD ds lo hi)) := rfl
theorem mSeq_l {R : List D → Prop} : mSeq (.lst ds) R = R ds := rfl
theorem mSeq_t {R : List D → Prop} : mSeq (.tup ds) R = R ds := rfl
theorem mEnum_l {R : List D → Prop} : mEnum (.lst ds) R = R (enumD ds) := rfl
theorem mEnum_t {R : List D → Prop} : mEnum (.tup ds) R = R (enumD ds) := rfl
theorem mFld_o {f : Str} {C C' : Addr} {fs : List (Str × D)} : mFld f C (.obj C' fs) Q = (C' = C ∧ ∃ d, fs.lookup f = some d ∧ Q false d) := rfl
theorem mExt_l {R : List D → Prop} : mExtend ds [.lst es] R = (ds.length + es.length ≤ sizeLine ∧ R (ds ++ es)) := rfl
theorem mRev_l {R : List D → Prop} : mReverse ds [] R = R ds.reverse := rfl
theorem mRepr_1 : mRepr [d] Q = (d.shw ∧ Q false (.str d.shown)) := rfl
theorem put_f {R : Sx → Prop} : put false i k d st R = R (st.set i (.val d)) := rfl
theorem put_t {R : Sx → Prop} : put true i k d st R = ∃ ds, k = true ∧ d = .lst ds ∧ R (st.set i (.own ds)) := rfl
theorem frz_0 : frzS 0 (Sl.own ds :: st) = Sl.val (.lst ds) :: st := rfl
theorem frz_c {c : Ct} : frzS 0 (Sl.ow c :: st) = Sl.val c.d :: st := rfl
theorem rdO_c {c : Ct} : rdO (Sl.ow c :: st) 0 Q = Q false c.d := rfl
theorem frz_1 : frzS 0 (Sl.val d :: st) = Sl.val d :: st := rfl
theorem frz_2 : frzS 0 (Sl.un :: st) = Sl.un :: st := rfl
theorem frz_s : frzS (i + 1) (s :: st) = s :: frzS i st := by
  unfold frzS
  rw [List.getElem?_cons_succ]
  cases st[i]? with
  | none => rfl
  | some x => cases x <;> rfl
theorem wpS_0 : wipeS st [] = st := rfl
theorem wpS_1 {js : List Nat} : wipeS st (i :: js) = (wipeS st js).set i .un := rfl
end
end DW
namespace DW
open PySem PySem.Spec PyProof.Rows L2
/-! ### job lists -/
structure ClsJ (K : PySem.W.Frag) (mg : Str → Option Value) (C : Addr) : Prop where
  cl : Cls K C
  n_size : NoAttr K C "size"
  n_jobs : NoAttr K C "jobs"
  mg : mg "Jobs" = some (.ref C)
  ins : InsT K C
  isi : PySem.W.kitOne K (.ref C) (.ref C) = some true
structure IniJ (K : PySem.W.Frag) (C : Addr) (st : Stmt) (f : Addr) (fd : FuncData) : Prop where
  F : Fun K "__init__" "Jobs.__init__" st f fd
  b : Binds K fd ["self", "size", "jobs"] []
  made : Mk K C f
def jO (C : Addr) (n : Int) (rows : List (List Int)) : D := .obj C [("size", .int n), ("jobs", tT rows)]
structure good (n : Int) (rows : List (List Int)) : Prop where
  n0 : 0 ≤ n
  n7 : n ≤ 7
  len : rows.length ≤ 7
  gp : ∀ r ∈ rows, Gp n r
def spInit (g : Gd) (C : Addr) : Sp := fun vs H Q _ => ∃ (x dx : Addr) (v1 v2 : V) (n : Int) (rows : List (List Int)) (d2 : D) (Av : Addr → Prop), vs = [.ref x, v1, v2] ∧ H x = some (.ins C dx []) ∧ Av x ∧ ¬ g.T x ∧ g.G H ∧ FrOk g Av H ∧
  DR Av H v1 (.int n) ∧ DR Av H v2 d2 ∧ (d2 = lT rows ∨ d2 = tT rows) ∧ good n rows ∧
  ∀ H' t us, (∀ a o, H a = some o → a ≠ x → ¬ g.W a → H' a = some o) → g.G H' → H' x = some (.ins C dx [("size", .int n), ("jobs", .ref t)]) → H' t = some (.tup us) → ¬ Av t → DRs Av H' us (rows.map tI) → Q .non H'
def mJobs (C : Addr) (ds : List D) (Q : RQ) : Prop := ∃ n rows, (ds = [.int n, lT rows] ∨ ds = [.int n, tT rows]) ∧ good n rows ∧ Q false (jO C n rows)
theorem imm_ints : ∀ xs : List Int, D.immAll (xs.map D.int) = true
  | [] => rfl
  | x :: xs => by simp [D.immAll, D.imm, imm_ints xs]
theorem imm_rows : ∀ rows : List (List Int), D.immAll (rows.map tI) = true
  | [] => rfl
  | r :: rows => by simp [D.immAll, D.imm, tI, imm_ints r, imm_rows rows]
theorem make_J {g : Gd} {X : Cx} {e : Expr} {es : List Expr} {wa : WPA} {C : Addr} (ha : WAR g X es wa) (cj : ClsJ X.K X.mg C) (hc : ∀ t, PA X es t → PE X e (tMake C (spInit g C) [] E0 t)) : WE g X e (fun st Q => wa st fun ds => mJobs C ds Q) := by
  refine we_make ha (spInit g C) (mJobs C) hc ?_
  rintro Avs Av H vs ds Q Qd F r ⟨n, rows, hds, hgd, hq⟩ hk x dx hx hdx hne
  obtain ⟨v1, v2, d2, rfl, rfl, y1, y2, hd2⟩ : ∃ v1 v2 d2, vs = [v1, v2] ∧ ds = [.int n, d2] ∧ Rdv Avs Av H v1 (.int n) ∧ Rdv Avs Av H v2 d2 ∧ (d2 = lT rows ∨ d2 = tT rows) := by
    rcases hds with rfl | rfl
    · obtain ⟨v, u, rfl, a, b⟩ := r.two
      exact ⟨v, u, _, rfl, rfl, a, b, .inl rfl⟩
    · obtain ⟨v, u, rfl, a, b⟩ := r.two
      exact ⟨v, u, _, rfl, rfl, a, b, .inr rfl⟩
  have nx : ¬ Avs x := fun z => F.tr x z hx
  have ndx : ¬ Avs dx := fun z => F.tr dx z hdx
  let H2 := upd (upd H dx (.own x)) x (.ins C dx [])
  have keep2 : ∀ a o, H a = some o → H2 a = some o := fun a o e => by
    show upd (upd H dx (.own x)) x (.ins C dx []) a = some o
    rw [upd_ne (ne_of_none e hx), upd_ne (ne_of_none e hdx)]; exact e
  have g2 : g.G H2 := g.st H H2 (fun a ha => by
    have n1 : a ≠ x := fun e => nx (F.t1 _ (e ▸ ha))
    have n2 : a ≠ dx := fun e => ndx (F.t1 _ (e ▸ ha))
    show upd (upd H dx (.own x)) x (.ins C dx []) a = H a
    rw [upd_ne n1, upd_ne n2]) F.gg
  have m2 : Mv Av (fun a => Av a ∨ a = x) H H2 := ⟨fun a o n e => ⟨fun z => z.elim n (ne_of_none e hx), keep2 a o e⟩⟩
  refine ⟨x, dx, v1, v2, n, rows, d2, fun a => Av a ∨ a = x, rfl, upd_same, .inr rfl, fun z => nx (F.t1 x z), g2, ⟨fun a h => .inl (F.t2 a h), fun a h => ?_⟩, (y1.weak F.sub).mv m2, (y2.weak F.sub).mv m2, hd2, hgd, fun H' t us kp hg' hx' ht nt0 dr0 => ?_⟩
  · rcases h with h | rfl
    · have nt := F.tr a (F.sub a h)
      show Nt (H2 a)
      cases q : H a with
      | none => exact absurd q nt.1
      | some o => rw [keep2 a o q, ← q]; exact nt
    · exact nt_of (show H2 a = some (.ins C dx []) from upd_same) (fun _ z => nomatch z)
  · refine ⟨rfl, hk false _ _ H' ⟨fun a o e nw => kp a o (keep2 a o e) (ne_of_none e hx) nw, hg'⟩ (.old ?_) hq⟩
    have nt : ¬ Av t := fun z => nt0 (.inl z)
    have dr := dr0.mv (⟨fun a u n e => ⟨fun z => n (.inl z), e⟩⟩ : Mv (fun a => Av a ∨ a = x) Av H' H')
    have lists : ∀ a, Avs a → ¬ Av a → ∃ u, H' a = some u ∧ Mt u := fun a h n => by
      obtain ⟨vs, e, m⟩ := F.ol a h n
      exact ⟨vs, kp a _ (keep2 a _ e) (ne_of_none e hx) fun w => n (F.t2 a (g.wt a w)), m⟩
    have nts : ¬ Avs t := fun z => by
      obtain ⟨vs, e, m⟩ := lists t z nt
      rw [ht] at e; cases e; exact m
    exact .obj nx hx' (.cons (.int n) (.cons (.tup nts ht (DRs.imm lists dr (imm_rows rows))) .nil))
theorem putF_size {n t : V} : putF ("jobs" : Str) t (putF ("size" : Str) n []) = [(("size" : Str), n), (("jobs" : Str), t)] := by
  show (if ("size" : Str) = ("jobs" : Str) then _ else _) = _
  rw [if_neg (by decide)]; rfl
/-! ### ==, != of all that is plain: flat values of any size, or data fit to be shown -/
section
variable {g : Gd} {X : Cx} {a b : Int} {s t : Str} {d : D} {Q : RQ}
def rEqF (X : Cx) : R2 := fun x y H Q => rEq x y H Q ∨ rEqD X.K x y H Q
def rNeF (X : Cx) : R2 := fun x y H Q => rNe x y H Q ∨ rNeD X.K x y H Q
theorem op_eqF (hu : X.A.units + 64 < cLine) : OpR X (compareOp .Eq) (rEqF X) := op_eq.or (op_eqD hu)
theorem op_neF (hu : X.A.units + 64 < cLine) : OpR X (compareOp .NotEq) (rNeF X) := op_ne.or (op_neD hu)
def mEqF : Sem2 := fun x y Q => (x.flat = true ∧ y.flat = true ∧ scal x.fv y.fv = true ∧ Q false (.bl (decide (x.fv = y.fv)))) ∨ mEq x y Q
def mNeF : Sem2 := fun x y Q => (x.flat = true ∧ y.flat = true ∧ scal x.fv y.fv = true ∧ Q false (.bl (!decide (x.fv = y.fv)))) ∨ mNe x y Q
theorem Rdv.fl {Avs Av : Addr → Prop} {H : Hp} {v : V} {d : D} (h : Rdv Avs Av H v d) (f : d.flat = true) : v = d.fv := ((h.dr (by cases d <;> simp [D.flat] at f ⊢)).flat f).1
theorem s2_eqF : S2 g (rEqF X) mEqF := by
  intro Avs Av H x y vx vy Q Qd F rx ry hm hk
  rcases hm with ⟨f1, f2, sc, q⟩ | hm
  · rw [rx.fl f1, ry.fl f2]
    exact .inl ⟨sc, hk false _ _ H (Kp.refl F.gg) (.old (.bl _)) q⟩
  · exact .inr (s2_eq Avs Av H x y vx vy Q Qd F rx ry hm hk)
theorem s2_neF : S2 g (rNeF X) mNeF := by
  intro Avs Av H x y vx vy Q Qd F rx ry hm hk
  rcases hm with ⟨f1, f2, sc, q⟩ | hm
  · rw [rx.fl f1, ry.fl f2]
    exact .inl ⟨sc, hk false _ _ H (Kp.refl F.gg) (.old (.bl _)) q⟩
  · exact .inr (s2_ne Avs Av H x y vx vy Q Qd F rx ry hm hk)
theorem eq_int (h : Q false (.bl (decide (a = b)))) : mEqF (.int a) (.int b) Q := .inl ⟨rfl, rfl, rfl, by
  rw [show decide ((D.int a).fv = (D.int b).fv) = decide (a = b) by simp [D.fv]]; exact h⟩
theorem ne_int (h : Q false (.bl (!decide (a = b)))) : mNeF (.int a) (.int b) Q := .inl ⟨rfl, rfl, rfl, by
  rw [show decide ((D.int a).fv = (D.int b).fv) = decide (a = b) by simp [D.fv]]; exact h⟩
theorem eq_str (h : Q false (.bl (decide (s = t)))) : mEqF (.str s) (.str t) Q := .inl ⟨rfl, rfl, rfl, by
  rw [show decide ((D.str s).fv = (D.str t).fv) = decide (s = t) by simp [D.fv]]; exact h⟩
theorem eqv_me (h : d.tiny = true) : PyData.eqv d.py d.py = true := PySem.SeqAt.eqv_refl _ (tiny_lay d h).1
theorem eq_me (h : d.shw) (q : Q false (.bl true)) : mEqF d d Q := .inr ⟨⟨h.1, h.2.2⟩, ⟨h.1, h.2.2⟩, by rw [eqv_me h.1]; exact q⟩
theorem eq_data {e : D} (h : d.shw) (h2 : e.shw) (q : Q false (.bl (PyData.eqv d.py e.py))) : mEqF d e Q := .inr ⟨⟨h.1, h.2.2⟩, ⟨h2.1, h2.2.2⟩, q⟩
end
end DW
namespace DW
open PySem PySem.Spec PyProof.Rows L2
/-! ### == by a class's own __eq__ -/
def rOwn (C : Addr) (sp : Sp) (E : XK) : R2 := fun x y H Q => ∃ a b dx dy fs gs, x = .ref a ∧ y = .ref b ∧ H a = some (.ins C dx fs) ∧ H b = some (.ins C dy gs) ∧ sp [x, y] H (fun v H' => ∃ k, v = .bl k ∧ Q (.bl k) H') E
theorem op_eqO {X : Cx} {CX : CXT} {n : Nat} {C f : Addr} {fd : FuncData} {ps : List Str} {sp : Sp} {E : XK} (F : FnOk X.prog X.w X.K X.mg X.base CX n f fd ps sp)
    (hs : PySem.W.findIn X.K (.ref C) "__eq__" = some (some (.ref f))) (hf : PySem.W.isFn X.K (.ref f) = true) (hb : Binds X.K fd ps []) (hx : Passes CX X E) (hr : Room n X.A) : OpR X (compareOp .Eq) (rOwn C sp E) := by
  intro pins s σ H x y u v Q I rx ry d
  obtain ⟨a, b, dx, dy, fs, gs, rfl, rfl, ha, hb', hsp⟩ := d
  cases rx
  cases ry
  show wpAny (model X.prog X.w) X.A (richCompare .Eq (.ref a) (.ref b)) (EP X pins σ Q) X.xe s
  obtain ⟨mA, J, _⟩ := ins_get I.hok ha
  obtain ⟨mB, J', _⟩ := ins_get I.hok hb'
  obtain ⟨od, J, _⟩ := J.look
  obtain ⟨od', J', _⟩ := J'.look
  obtain ⟨m, hF⟩ := I.fr
  refine PySem.W.cmp_K (op := .Eq) (tb := .ref C) hr.units0 hF I.ok.mod.kin J J'.type (by simp [PySem.W.notFirst]) hs hf ?_
  have e0 : Env0 X.prog X.w X.K X.mg X.base X.A X.stack s H := I.env0
  have hl := F.len _ _ _ _ hsp
  have r2 : Vals [V.ref a, V.ref b] [Value.ref a, Value.ref b] := .cons rfl (.cons rfl .nil)
  refine wpAny_call (codeAny_mono (F.run X.A X.stack s H ⟨[.ref a, .ref b], []⟩ [.ref a, .ref b] [.ref a, .ref b] _ E hr e0 (by
    have := hb s [.ref a, .ref b] I.kIn (by simpa using hl)
    simpa using this) r2 hsp) fun r s' hq => ?_)
  cases r with
  | error e => exact hx pins σ H s e s' I hq
  | ok fl =>
    cases fl with
    | ret w =>
      obtain ⟨z, H', I', rz, k, ez, q⟩ := I.after hq
      subst ez
      cases rz
      exact ⟨.bl k, H', I', rfl, q⟩
    | next => exact False.elim hq
    | brk => exact False.elim hq
    | cont => exact False.elim hq
def mEqO (C : Addr) (SP : List D → RQ → Prop) : Sem2 := fun x y Q => ∃ fs gs, x = .obj C fs ∧ y = .obj C gs ∧ SP [x, y] fun _ d => ∃ k, d = .bl k ∧ Q false (.bl k)
theorem s2_eqO {g : Gd} {C : Addr} {SP : List D → RQ → Prop} : S2 g (rOwn C (spOf g 2 SP) E0) (mEqO C SP) := by
  intro Avs Av H x y vx vy Q Qd F rx ry hm hk
  obtain ⟨fs, gs, rfl, rfl, hm⟩ := hm
  have r1 := rx.dr (by simp)
  have r2 := ry.dr (by simp)
  cases id r1 with
  | obj n1 e1 q1 =>
    cases id r2 with
    | obj n2 e2 q2 =>
      refine ⟨_, _, _, _, _, _, rfl, rfl, e1, e2, rfl, Avs, _, _, F.gg, ⟨F.t1, F.tr⟩, .cons r1 (.cons r2 .nil), hm, ?_⟩
      rintro fr d v H' k r ⟨c, rfl, hq⟩
      have r := r.dr
      cases r
      exact ⟨c, rfl, hk false _ _ H' k (.old (.bl c)) hq⟩
/-! ### the law's script -/
def KList (K : PySem.W.Frag) (a : Addr) (xs : List V) : Prop := ∃ (o : Obj) (its : Array Value) (n : Nat), K.lookup a = some o ∧ o.cls = .type "list" ∧ o.dict = none ∧ o.data = .seq its n ∧ its.size ≤ sizeLine ∧ Vals xs its.toList
def gS (K : PySem.W.Frag) (a : Addr) (xs : List V) (tr : Prop) : Gd where
  W := fun _ => False
  T := fun b => tr ∧ b = a
  G := fun H => (tr ∧ Rd H a (.lst xs)) ∨ (¬ tr ∧ KList K a xs)
  wt := fun a h => h.elim
  st := fun H H' e h => by
    rcases h with ⟨t, h⟩ | h
    · left
      refine ⟨t, ?_⟩
      have := e a ⟨t, rfl⟩
      rcases h with h | ⟨o, h⟩
      · exact .inl (this.trans h)
      · exact .inr ⟨o, this.trans h⟩
    · exact .inr h
  tr := fun H h b hb => by
    obtain ⟨t, rfl⟩ := hb
    rcases h with ⟨_, h⟩ | ⟨n, _⟩
    · rcases h with h | ⟨o, h⟩ <;> exact nt_of h (fun _ z => nomatch z)
    · exact absurd t n
theorem gS_sq {K : PySem.W.Frag} {a : Addr} {xs : List V} {tr : Prop} {H : Hp} (h : (gS K a xs tr).G H) : SqL K H a xs := by
  rcases h with ⟨_, h⟩ | ⟨_, h⟩
  · exact .inl h
  · exact .inr h
theorem gS_of {K : PySem.W.Frag} {a : Addr} {xs : List V} {H : Hp} (h : SqL K H a xs) : (gS K a xs (Rd H a (.lst xs))).G H := by
  by_cases t : Rd H a (.lst xs)
  · exact .inl ⟨t, t⟩
  · rcases h with h | h
    · exact absurd h t
    · exact .inr ⟨t, h⟩
theorem cut_ints (ns : List Int) (k : Nat) : cutV (ns.map V.int) none (some (k : Int)) = (ns.take k).map V.int := by
  unfold cutV
  rw [HT.sIx_none, HT.sIx_nat, List.drop_zero, Nat.sub_zero, ← List.map_take]
  by_cases h : k ≤ ns.length
  · rw [List.length_map, Nat.min_eq_left h]
  · rw [List.length_map, Nat.min_eq_right (by omega), List.take_of_length_le (by omega), List.take_of_length_le (by omega)]
theorem we_sliceS {X : Cx} {a : Addr} {ns : List Int} {tr : Prop} {e : Expr} {i j : Nat} {p1 p2 pos : Pos} {k : Nat} (h : PE X e (tVar i)) (hz : k ≤ 1000) :
    WE (gS X.K a (ns.map V.int) tr) X (.Subscript e (.Slice none (some (.Constant (.int (k : Int)) j p1)) none p2) pos) (fun st Q => st[i]? = some (.val (.rf a)) ∧ Q true (.lst ((ns.take k).map D.int))) := by
  refine ⟨_, pe_slice sl_list h po_none (po_some pe_int), fun Av B gh H0 o σ st H Q Qd hg F R hw hk => ?_⟩
  obtain ⟨hi, hq⟩ := hw
  obtain ⟨v, e1, r⟩ := R.val i _ hi
  cases r
  refine ⟨_, e1, _, rfl, a, _, rfl, gS_sq R.kp.2, fun p hp => ?_⟩
  rw [cut_ints]
  obtain ⟨kp, r⟩ := (R.fit F).lst (drs_ints (ns.take k)) hp
  exact hk true _ _ _ kp r hq
/-! ### a reading that is chosen later -/
theorem wss_ex {ι : Type} {P : ι → Prop} {g : ι → Gd} {X : Cx} {ss : List Stmt} {w : ι → WPS} (h : ∀ i, P i → WSs (g i) X ss (w i)) :
    ∃ t, PSs X ss t ∧ ∀ i, P i → ∀ Av B gh H0 o σ st H E De, (g i).G H0 → FrOk (g i) Av H0 → Rel (g i) Av B gh H0 o σ st H → w i De st → EndsOk (g i) Av B gh H0 E De → t E σ H := by
  refine ⟨fun E σ H => ∃ i, ∃ p : P i, (h i p).choose E σ H, ⟨fun pins s σ H E I hh => ?_⟩, fun i p Av B gh H0 o σ st H E De a b c d e => ⟨i, p, (h i p).choose_spec.2 Av B gh H0 o σ st H E De a b c d e⟩⟩
  obtain ⟨i, p, z⟩ := hh
  exact (h i p).choose_spec.1.run pins s σ H E I z
/-! ### rows, told apart -/
theorem eqv_ints : ∀ r s : List Int, PyData.eqvAll (D.pyAll (r.map D.int)) (D.pyAll (s.map D.int)) = decide (r = s)
  | [], [] => rfl
  | [], y :: s => rfl
  | x :: r, [] => rfl
  | x :: r, y :: s => by
    have ih := eqv_ints r s
    simp only [List.map_cons, D.pyAll, PyData.eqvAll, D.py, PyData.eqv, ih]
    rw [Bool.eq_iff_iff]
    simp
theorem eqv_rows : ∀ r s : List (List Int), PyData.eqvAll (D.pyAll (r.map tI)) (D.pyAll (s.map tI)) = decide (r = s)
  | [], [] => rfl
  | [], y :: s => rfl
  | x :: r, [] => rfl
  | x :: r, y :: s => by
    have ih := eqv_rows r s
    simp only [List.map_cons, D.pyAll, PyData.eqvAll, tI, D.py, PyData.eqv, ih, eqv_ints]
    rw [Bool.eq_iff_iff]
    simp
end DW
namespace DW
open PySem PySem.Spec PyProof.Rows L2
/-! ### insert, pop(i) as statements -/
section
variable {g : Gd} {X : Cx} {s : Stmt} {e ei : Expr} {w wi : WP}
theorem ws_insertE {r : V → List V → Hp → VK → Prop} (hr : ∀ (l : Addr) (xs : List V) (i : Int) (y : V) (H : Hp) (Q : VK), H l = some (.lst xs) → xs.length < sizeLine → 0 ≤ i → i < 2 ^ 63 → Q .non (upd H l (.lst (xs.take i.toNat ++ [y] ++ xs.drop i.toNat))) → r (.ref l) [.int i, y] H Q)
    (j : Nat) (hi : WE g X ei wi) (h : WE g X e w) (hp : ∀ ti te, PE X ei ti → PE X e te → PS X s (tDrop (tBM X.K "list" r (tVar j) (tCons ti (tCons te tNil))))) :
    WS g X s (fun De st => ∃ ds, st[j]? = some (.own ds) ∧ wi st fun _ k => w st fun _ d => ∃ i : Nat, k = .int (i : Int) ∧ i ≤ 1000 ∧ ds.length < sizeLine ∧ De.nx (st.set j (.own (ds.take i ++ [d] ++ ds.drop i)))) := by
  obtain ⟨t2, p2, q2⟩ := hi
  obtain ⟨t, p, q⟩ := h
  refine ⟨_, hp t2 t p2 p, fun Av B gh H0 o σ st H E De hg F R hw K => ?_⟩
  obtain ⟨ds, hj, hw⟩ := hw
  obtain ⟨e1, e2, nb, vs, e3, rr⟩ := R.own j ds hj
  refine ⟨_, e1, .inl ⟨rfl, vs, .inl (.inl e3)⟩, q2 Av B gh H0 o σ st H _ _ hg F R hw fun fr k v1 H1 k1 r1 hw1 => ?_⟩
  have R1 := R.mono F k1
  refine q Av B gh H0 o σ st H1 _ _ hg F R1 hw1 fun fr2 d v2 H2 k2 r2 hd => ?_
  obtain ⟨i, rfl, hi, hz, hd⟩ := hd
  have R2 := R1.mono F k2
  obtain ⟨_, _, _, vs1, e4, r4⟩ := R2.own j ds hj
  have ev : v1 = .int (i : Int) := by cases r1.dr; rfl
  subst ev
  refine hr _ vs1 _ _ _ _ e4 (by rw [r4.length]; exact hz) (by omega) (by omega) ?_
  rw [Int.toNat_natCast]
  exact K.nx o σ _ _ (R2.updOwn F hj (((r4.take i).app (.cons r2.dr .nil)).app (r4.drop i))) hd
theorem ws_popAt (j : Nat) (hi : WE g X ei wi) (hp : ∀ ti, PE X ei ti → PS X s (tDrop (tBM X.K "list" rPopAt (tVar j) (tCons ti tNil)))) :
    WS g X s (fun De st => ∃ ds, st[j]? = some (.own ds) ∧ wi st fun _ k => ∃ i : Nat, k = .int (i : Int) ∧ i < ds.length ∧ i ≤ 1000 ∧ De.nx (st.set j (.own (ds.eraseIdx i)))) := by
  obtain ⟨t2, p2, q2⟩ := hi
  refine ⟨_, hp t2 p2, fun Av B gh H0 o σ st H E De hg F R hw K => ?_⟩
  obtain ⟨ds, hj, hw⟩ := hw
  obtain ⟨e1, e2, nb, vs, e3, rr⟩ := R.own j ds hj
  refine ⟨_, e1, .inl ⟨rfl, vs, .inl (.inl e3)⟩, q2 Av B gh H0 o σ st H _ _ hg F R hw fun fr k v1 H1 k1 r1 hd => ?_⟩
  obtain ⟨i, rfl, hil, hi, hd⟩ := hd
  have R1 := R.mono F k1
  obtain ⟨_, _, _, vs1, e4, r4⟩ := R1.own j ds hj
  have ev : v1 = .int (i : Int) := by cases r1.dr; rfl
  subst ev
  have hl : i < vs1.length := by rw [r4.length]; exact hil
  refine ⟨_, vs1, (i : Int), i, vs1[i], rfl, rfl, e4, by omega, by omega, ?_, List.getElem?_eq_getElem hl, K.nx o σ _ _ (R1.updOwn F hj (r4.erase i)) hd⟩
  unfold seqIndex?
  have h1 : ¬ ((i : Int) < 0) := by omega
  simp only [if_neg h1]
  have h2 : (decide (0 ≤ (i : Int)) && decide ((i : Int) < (vs1.length : Int))) = true := by simp; omega
  rw [if_pos h2, Int.toNat_natCast]
/-! ### zip of two tuples -/
def zipD (ds es : List D) : List D := (ds.zip es).map fun p => D.tup [p.1, p.2]
theorem zipD_get {ds es : List D} {i : Nat} {d : D} (h : (zipD ds es)[i]? = some d) : ∃ x y, ds[i]? = some x ∧ es[i]? = some y ∧ d = .tup [x, y] := by
  unfold zipD at h
  rw [List.getElem?_map] at h
  cases q : (ds.zip es)[i]? with
  | none => rw [q] at h; cases h
  | some p =>
    rw [q] at h
    cases h
    obtain ⟨h1, h2⟩ := List.getElem?_zip_eq_some.mp q
    exact ⟨_, _, h1, h2, rfl⟩
theorem walk_zipT {K : PySem.W.Frag} {a b : Addr} {ds es : List D} : Walk g (RZ.ItzT K a b) (fun v d => one (.ref a) (.tup ds) v d ∨ one (.ref b) (.tup es) v d) (zipD ds es) := by
  intro Avs Av2 H' F' r0
  have r1 := r0 _ _ (.inl ⟨rfl, rfl⟩)
  have r2 := r0 _ _ (.inr ⟨rfl, rfl⟩)
  cases r1 with
  | tup n1 e1 s1 =>
  cases r2 with
  | tup n2 e2 s2 =>
    rename_i va vb
    refine ⟨⟨va, vb, .inl (.inl e1), .inl (.inl e2), ?_⟩, fun i d hi => ?_⟩
    · unfold zipD
      rw [List.length_map, List.length_zip, s1.length, s2.length]
      omega
    · obtain ⟨x, y, hx, hy, rfl⟩ := zipD_get hi
      obtain ⟨vx, hvx, rx⟩ := s1.get hx
      obtain ⟨vy, hvy, ry⟩ := s2.get hy
      refine ⟨⟨va, vb, vx, vy, .inl (.inl e1), .inl (.inl e2), hvx, hvy⟩, fun z H3 hz => ?_⟩
      obtain ⟨T, x', y', rfl, hT, rfl, hx', hy'⟩ := hz
      have ex := hx' va (.inl (.inl e1))
      have ey := hy' vb (.inl (.inl e2))
      rw [hvx] at ex; cases ex
      rw [hvy] at ey; cases ey
      obtain ⟨k, z⟩ := F'.tup (vs := [vx, vy]) (ds := [x, y]) (.cons rx (.cons ry .nil)) hT
      exact ⟨k, z.dr⟩
def mZip : D → D → (List D → Prop) → Prop | .tup ds, .tup es, Q => Q (zipD ds es) | _, _, _ => False
theorem wi_zip {a b : Expr} {wa wb : WP} {p pos tpos : Pos} {elts : List Expr} {kk : Nat} (ha : WE g X a wa) (hb : WE g X b wb) (hg : Gl X "zip") (hm : X.mg "zip" = none)
    (hs : starEach [a, b] X.env = (false, eval a X.env) :: starEach [b] X.env := by rfl) (hs2 : starEach [b] X.env = (false, eval b X.env) :: starEach [] X.env := by rfl) (hpl : (backTo pos (starEach [b] X.env)).any (·.1) = false := by rfl) :
    WI g X (.Tuple elts kk tpos) (.Call (.Name "zip" p) [a, b] [] pos) (fun st Q => wa st fun _ d => wb st fun _ e => mZip d e Q) := by
  obtain ⟨t, p1, q1⟩ := ha
  obtain ⟨t2, p2, q2⟩ := hb
  refine ⟨_, RZ.pi_zipA hg hm (pa_cons p1 (pa_cons p2 pa_nil hs2) hs) hs hpl, fun Av B gh H0 o σ st H R Qd hg F Rl hw hk => ?_⟩
  refine q1 Av B gh H0 o σ st H _ _ hg F Rl hw fun fr d v H1 k1 r1 hw1 => ?_
  refine q2 Av B gh H0 o σ st H1 _ _ hg F (Rl.mono F k1) hw1 fun fr2 e v2 H2 k2 r2 hd => ?_
  cases d <;> cases e <;> simp only [mZip] at hd
  case tup.tup ds es =>
    have z1 := r1.dr.mv (Mv.avo F k2)
    have z2 := r2.dr
    have RL2 := (Rl.mono F k1).mono F k2
    cases z1 with
    | tup na ea ra =>
      cases z2 with
      | tup nb eb rb =>
        rename_i pa va pb vb
        refine ⟨pa, pb, va, vb, rfl, .inr ⟨.inl (.inl ea), .inl (.inl eb), ?_⟩⟩
        exact hk (zipD ds es) _ (RZ.ItzT X.K pa pb) H2 (k1.trans k2) (by
          rintro v d (⟨rfl, rfl⟩ | ⟨rfl, rfl⟩)
          · exact .tup na ea ra
          · exact .tup nb eb rb) walk_zipT hd
/-! ### len(set(t)) -/
def tLenSetT (K : PySem.W.Frag) (ta : TE) : TE := fun σ H Q => ta σ H fun x H1 => ∃ (l : Addr) (ns : List Int), x = .ref l ∧ SqT K H1 l (ns.map V.int) ∧ ns.length < 60 ∧ ∀ c : Nat, (c = ns.length ↔ ns.Nodup) → Q (.int c) H1
theorem nodup_less : ∀ {ns ks : List Int}, ks.Nodup → (∀ k, k ∈ ns ↔ k ∈ ks) → ks.length ≤ ns.length ∧ (ks.length = ns.length → ns.Nodup)
  | [], ks, _, h => by
    cases ks with
    | nil => exact ⟨Nat.le_refl _, fun _ => List.nodup_nil⟩
    | cons k ks => exact absurd ((h k).mpr List.mem_cons_self) (by simp)
  | x :: ns, ks, hk, h => by
    by_cases hx : x ∈ ns
    · obtain ⟨a, _⟩ := nodup_less (ns := ns) hk fun k => by
        rw [← h k, List.mem_cons]
        exact ⟨.inr, fun z => z.elim (fun z => z ▸ hx) id⟩
      rw [List.length_cons]
      exact ⟨by omega, fun e => by omega⟩
    · have hxk : x ∈ ks := (h x).mp List.mem_cons_self
      obtain ⟨a, b⟩ := nodup_less (ns := ns) (ks := ks.erase x) (hk.erase x) fun k => by
        rw [hk.mem_erase_iff, ← h k, List.mem_cons]
        constructor
        · exact fun z => ⟨fun e => hx (e ▸ z), .inr z⟩
        · rintro ⟨n, z | z⟩
          · exact absurd z n
          · exact z
      rw [List.length_erase_of_mem hxk] at a b
      have hp : 0 < ks.length := List.length_pos_of_mem hxk
      rw [List.length_cons]
      exact ⟨by omega, fun e => List.nodup_cons.mpr ⟨hx, b (by omega)⟩⟩
theorem nodup_count {ks ns : List Int} (hk : ks.Nodup) (h : ∀ k, k ∈ ns ↔ k ∈ ks) : ks.length = ns.length ↔ ns.Nodup := by
  refine ⟨(nodup_less hk h).2, fun hn => Nat.le_antisymm (nodup_less hk h).1 (nodup_less hn fun k => (h k).symm).1⟩
theorem pe_lenSetT {e : Expr} {ta : TE} {p p2 q pos : Pos} (hc : X.calm = true) (hg : Gl X "len") (hm : X.mg "len" = none) (hg2 : Gl X "set") (hm2 : X.mg "set" = none) (ha : PE X e ta)
    (na : starEach [e] X.env = (false, eval e X.env) :: starEach [] X.env := by rfl) : PE X (.Call (.Name "len" p) [.Call (.Name "set" p2) [e] [] q] [] pos) (tLenSetT X.K ta) := by
  refine ⟨fun pins s σ H Q I h => ?_⟩
  refine Call_ (ld_blt I hg hm PySem.boot_len ?_)
  refine PyProof.Rows.callWith_builtin1 (PyProof.Rows.args_cons ?_ rfl) rfl rfl
  refine Call_ (ld_blt I hg2 hm2 PyProof.Rows.boot_set ?_)
  refine PyProof.Rows.callWith_type1 (PyProof.Rows.args_cons (thn (ha.run pins s σ H _ I h) fun v s1 hv => PyProof.Rows.args_nil ?_) na) na rfl
  obtain ⟨x, H1, I1, r1, l, ns, rfl, hq, h1, q1⟩ := hv
  cases r1
  obtain ⟨its, r, pl, hz⟩ := I1.tuple hq
  refine call_set_tupI ns (I1.ok.hd hc) (show s1.heap.IsTuple l its.toArray from pl) (by simpa using (Vals.ints r)) (by unfold scanBound; omega) fun h' tk c hS hcn hk => ?_
  refine PyProof.Rows.args_nil ?_
  obtain ⟨o, es, ep, t, ho, hex, hd, _, hnd, hmem, _, hf, hn, _⟩ := hS
  have I2 : Inv X pins σ H1 { s1 with heap := h', toks := tk } := I1.kept hk
  have cnt : c = ns.length ↔ ns.Nodup := by
    rw [← hn, show es.size = (es.toList.map keyOf).length by simp]
    exact nodup_count hnd fun k => by rw [← hmem k, decide_eq_true_eq]
  refine call_len_set ho hex hd hf (by rw [hn] <;> omega) ⟨.int (c : Int), H1, I2.tok _, ⟨_, by rw [hn]⟩, q1 c cnt⟩
def mLenSet : D → RQ → Prop := fun d Q => ∃ ns : List Int, d = .tup (ns.map D.int) ∧ ns.length < 60 ∧ ∀ c : Nat, (c = ns.length ↔ ns.Nodup) → Q false (.int (c : Int))
theorem we_lenSet {p p2 q pos : Pos} (h : WE g X e w) (hc : X.calm = true) (hg : Gl X "len") (hm : X.mg "len" = none) (hg2 : Gl X "set") (hm2 : X.mg "set" = none)
    (na : starEach [e] X.env = (false, eval e X.env) :: starEach [] X.env := by rfl) : WE g X (.Call (.Name "len" p) [.Call (.Name "set" p2) [e] [] q] [] pos) (fun st Q => w st fun _ d => mLenSet d Q) := by
  obtain ⟨t, pe, qe⟩ := h
  refine ⟨_, pe_lenSetT hc hg hm hg2 hm2 pe na, fun Av B gh H0 o σ st H Q Qd hG F R hw hk => ?_⟩
  refine qe Av B gh H0 o σ st H _ _ hG F R hw fun fr d v H1 k1 r1 hd => ?_
  obtain ⟨ns, rfl, hl, hd⟩ := hd
  have r := r1.dr
  cases r with
  | tup n ea rs =>
    cases rs.ints
    exact ⟨_, ns, rfl, .inl (.inl ea), hl, fun c hcn => hk false _ _ H1 k1 (.old (.int _)) (hd c hcn)⟩
/-! ### a < b < c as a test -/
theorem wt_chain {a b c : Expr} {wa wb wc : WP} {op op' : CmpOp} {r r' : R2} {m m' : Sem2} {pos : Pos} (ho : OpR X (compareOp op) r) (ho' : OpR X (compareOp op') r') (hs : S2 g r m) (hs' : S2 g r' m') (ha : WR g X a wa) (hb : WR g X b wb) (hc : WR g X c wc)
    (pc : ∀ {ta tb tc}, PE X a ta → PE X b tb → PE X c tc → PT X (.Compare a [op, op'] [b, c] pos) (tTest (tChain r r' ta tb tc))) :
    WT g X (.Compare a [op, op'] [b, c] pos) (fun st Q => wa st fun _ x => wb st fun _ y => m x y fun _ z => ∃ k, z = .bl k ∧ (if k = true then wc st fun _ u => m' y u fun _ z => ∃ c, z = .bl c ∧ Q c else Q false)) := by
  obtain ⟨t, p, q⟩ := ha
  obtain ⟨t2, p2, q2⟩ := hb
  obtain ⟨t3, p3, q3⟩ := hc
  refine ⟨_, pc p p2 p3, fun Av B gh H0 o σ st H Q Qd hg F R hw hk => ?_⟩
  have T1 : ∀ a, g.T a → Avo Av B o st a := fun a h => Avo.ta F h
  have T2 : ∀ a, g.T a → (Av a ∨ B a) := fun a h => .inl (F.ta a h)
  refine q Av B gh H0 o σ st H _ _ hg F R hw fun fr d v H1 k1 r1 hw1 => ?_
  refine q2 Av B gh H0 o σ st H1 _ _ hg F (R.mono F k1) hw1 fun fr2 d2 v2 H2 k2 r2 hd => ?_
  refine hs _ _ H2 d d2 v v2 _ _ (((R.mono F k1).mono F k2).fit F) (r1.mono T1 T2 k2) r2 hd fun fr d3 v3 H3 k3 r3 hq => ?_
  obtain ⟨k, rfl, hq⟩ := hq
  have e3 : v3 = .bl k := by cases r3.dr; rfl
  refine ⟨k, e3, ?_⟩
  cases k with
  | true =>
    simp only [if_true] at hq ⊢
    refine q3 Av B gh H0 o σ st H3 _ _ hg F (R.mono F ((k1.trans k2).trans k3)) hq fun fr4 d4 v4 H4 k4 r4 hd4 => ?_
    refine hs' _ _ H4 d2 d4 v2 v4 _ _ ((R.mono F (((k1.trans k2).trans k3).trans k4)).fit F) (r2.mono T1 T2 (k3.trans k4)) r4 hd4 fun fr5 d5 v5 H5 k5 r5 hq5 => ?_
    obtain ⟨c5, rfl, hq5⟩ := hq5
    have e5 : v5 = .bl c5 := by cases r5.dr; rfl
    exact ⟨c5, e5, hk c5 H5 ((((k1.trans k2).trans k3).trans k4).trans k5) hq5⟩
  | false =>
    simp only [Bool.false_eq_true, if_false] at hq ⊢
    exact ⟨false, rfl, hk false H3 ((k1.trans k2).trans k3) hq⟩
end
theorem WSs.imp {g : Gd} {X : Cx} {ss : List Stmt} {w w' : WPS} (h : WSs g X ss w) (hw : ∀ De st, w' De st → w De st) : WSs g X ss w' := by
  obtain ⟨t, p, q⟩ := h
  exact ⟨t, p, fun Av B gh H0 o σ st H E De a b c d e => q Av B gh H0 o σ st H E De a b c (hw De st d) e⟩
/-- items that are drawn -/
theorem wLc_any {α : Type} {b : WPG} {te : WP} {s0 : Sx} (inj : α → D) (P : D → Prop) : ∀ (xs : List α) (Q : List D → Prop),
    (∀ x ∈ xs, ∀ (R1 : D → Prop), (∀ y, P y → R1 y) → b (inj x) s0 fun st => te st fun _ y => R1 y) →
    (∀ ys : List D, ys.length = xs.length → (∀ y ∈ ys, P y) → Q ys) → wLc b (fun _ Q => Q true) te s0 (xs.map inj) Q
  | [], Q, _, h => h [] rfl fun y hy => nomatch hy
  | x :: xs, Q, hd, h => by
    show b (inj x) s0 _
    refine hd x List.mem_cons_self (fun y => wLc b (fun _ Q => Q true) te s0 (xs.map inj) fun ys => Q (y :: ys)) fun y hy => ?_
    exact wLc_any inj P xs _ (fun z hz => hd z (List.mem_cons_of_mem _ hz)) fun ys hl hp => h (y :: ys) (by simp [hl]) fun z hz => by
      rcases List.mem_cons.mp hz with rfl | hz
      · exact hy
      · exact hp z hz
end DW
namespace DW
open PySem PySem.Spec PyProof.Rows L2
/-! ### dicts -/
section
variable {κ : Type} [DecidableEq κ]
def valD (kvs : List (κ × D)) (k : κ) : Option D := (kvs.find? fun kv => decide (kv.1 = k)).map (·.2)
def putD (kvs : List (κ × D)) (k : κ) (v : D) : List (κ × D) :=
  if (kvs.any fun kv => decide (kv.1 = k)) = true then kvs.map (fun kv => if kv.1 = k then (kv.1, v) else kv) else kvs ++ [(k, v)]
end
def kD : L2.Key → D | .inl i => .int i | .inr x => .str x
def keyD (k : List L2.Key) : D := .tup (k.map kD)
theorem DR.kV {Av : Addr → Prop} {H : Hp} {v : V} {k : L2.Key} (h : DR Av H v (kD k)) : v = L2.kV k := by
  cases k <;> (cases h; rfl)
theorem DRs.kVs {Av : Addr → Prop} {H : Hp} : ∀ {vs : List V} {k : List L2.Key}, DRs Av H vs (k.map kD) → vs = k.map L2.kV
  | _, [], .nil => rfl
  | _, k :: ks, .cons h r => by rw [h.kV, DRs.kVs r]; rfl
theorem DRt.look {Av : Addr → Prop} {H : Hp} {k : List L2.Key} : ∀ {kvs : List (List L2.Key × V)} {ds : List (List L2.Key × D)}, DRt Av H kvs ds → ∀ d, valD ds k = some d → ∃ v, valV kvs k = some v ∧ DR Av H v d
  | _, _, .nil, d, e => by simp [valD] at e
  | _, _, .cons (k := k') (v := v) (d := d') h r, d, e => by
    unfold valD at e
    unfold valV
    rw [List.find?_cons] at e ⊢
    by_cases z : k' = k
    · simp only [z, decide_true] at e ⊢
      cases e
      exact ⟨v, rfl, h⟩
    · simp only [z, decide_false] at e ⊢
      exact DRt.look r d e
theorem DRk.look {Av : Addr → Prop} {H : Hp} {k : L2.Key} : ∀ {kvs : List (L2.Key × V)} {ds : List (L2.Key × D)}, DRk Av H kvs ds → ∀ d, valD ds k = some d → ∃ v, valV kvs k = some v ∧ DR Av H v d
  | _, _, .nil, d, e => by simp [valD] at e
  | _, _, .cons (k := k') (v := v) (d := d') h r, d, e => by
    unfold valD at e
    unfold valV
    rw [List.find?_cons] at e ⊢
    by_cases z : k' = k
    · simp only [z, decide_true] at e ⊢
      cases e
      exact ⟨v, rfl, h⟩
    · simp only [z, decide_false] at e ⊢
      exact DRk.look r d e
theorem DRt.none {Av : Addr → Prop} {H : Hp} {k : List L2.Key} : ∀ {kvs : List (List L2.Key × V)} {ds : List (List L2.Key × D)}, DRt Av H kvs ds → valD ds k = Option.none → valV kvs k = Option.none
  | _, _, .nil, e => by simp [valV]
  | _, _, .cons (k := k') (v := v) (d := d') h r, e => by
    unfold valD at e
    unfold valV
    rw [List.find?_cons] at e ⊢
    by_cases z : k' = k
    · simp [z] at e
    · simp only [z, decide_false] at e ⊢
      exact DRt.none r e
theorem DRk.none {Av : Addr → Prop} {H : Hp} {k : L2.Key} : ∀ {kvs : List (L2.Key × V)} {ds : List (L2.Key × D)}, DRk Av H kvs ds → valD ds k = Option.none → valV kvs k = Option.none
  | _, _, .nil, e => by simp [valV]
  | _, _, .cons (k := k') (v := v) (d := d') h r, e => by
    unfold valD at e
    unfold valV
    rw [List.find?_cons] at e ⊢
    by_cases z : k' = k
    · simp [z] at e
    · simp only [z, decide_false] at e ⊢
      exact DRk.none r e
theorem DRt.len {Av : Addr → Prop} {H : Hp} : ∀ {kvs : List (List L2.Key × V)} {ds : List (List L2.Key × D)}, DRt Av H kvs ds → kvs.length = ds.length
  | _, _, .nil => rfl
  | _, _, .cons h r => by rw [List.length_cons, List.length_cons, DRt.len r]
theorem DRk.len {Av : Addr → Prop} {H : Hp} : ∀ {kvs : List (L2.Key × V)} {ds : List (L2.Key × D)}, DRk Av H kvs ds → kvs.length = ds.length
  | _, _, .nil => rfl
  | _, _, .cons h r => by rw [List.length_cons, List.length_cons, DRk.len r]
theorem DRt.app {Av : Addr → Prop} {H : Hp} : ∀ {kvs ls : List (List L2.Key × V)} {ds es : List (List L2.Key × D)}, DRt Av H kvs ds → DRt Av H ls es → DRt Av H (kvs ++ ls) (ds ++ es)
  | _, _, _, _, .nil, s => s
  | _, _, _, _, .cons h r, s => .cons h (DRt.app r s)
theorem DRk.app {Av : Addr → Prop} {H : Hp} : ∀ {kvs ls : List (L2.Key × V)} {ds es : List (L2.Key × D)}, DRk Av H kvs ds → DRk Av H ls es → DRk Av H (kvs ++ ls) (ds ++ es)
  | _, _, _, _, .nil, s => s
  | _, _, _, _, .cons h r, s => .cons h (DRk.app r s)
theorem DRt.any {Av : Addr → Prop} {H : Hp} {p : List L2.Key → Bool} : ∀ {kvs : List (List L2.Key × V)} {ds : List (List L2.Key × D)}, DRt Av H kvs ds → (kvs.any fun x => p x.1) = ds.any fun x => p x.1
  | _, _, .nil => rfl
  | _, _, .cons h r => by rw [List.any_cons, List.any_cons, DRt.any r]
theorem DRk.any {Av : Addr → Prop} {H : Hp} {p : L2.Key → Bool} : ∀ {kvs : List (L2.Key × V)} {ds : List (L2.Key × D)}, DRk Av H kvs ds → (kvs.any fun x => p x.1) = ds.any fun x => p x.1
  | _, _, .nil => rfl
  | _, _, .cons h r => by rw [List.any_cons, List.any_cons, DRk.any r]
theorem DRt.over {Av : Addr → Prop} {H : Hp} {k : List L2.Key} {v : V} {d : D} (q : DR Av H v d) : ∀ {kvs : List (List L2.Key × V)} {ds : List (List L2.Key × D)}, DRt Av H kvs ds → DRt Av H (kvs.map fun kv => if kv.1 = k then (kv.1, v) else kv) (ds.map fun kv => if kv.1 = k then (kv.1, d) else kv)
  | _, _, .nil => .nil
  | _, _, .cons (k := k') h r => by
    simp only [List.map_cons]
    by_cases z : k' = k
    · rw [if_pos z, if_pos z]; exact .cons q (DRt.over q r)
    · rw [if_neg z, if_neg z]; exact .cons h (DRt.over q r)
theorem DRk.over {Av : Addr → Prop} {H : Hp} {k : L2.Key} {v : V} {d : D} (q : DR Av H v d) : ∀ {kvs : List (L2.Key × V)} {ds : List (L2.Key × D)}, DRk Av H kvs ds → DRk Av H (kvs.map fun kv => if kv.1 = k then (kv.1, v) else kv) (ds.map fun kv => if kv.1 = k then (kv.1, d) else kv)
  | _, _, .nil => .nil
  | _, _, .cons (k := k') h r => by
    simp only [List.map_cons]
    by_cases z : k' = k
    · rw [if_pos z, if_pos z]; exact .cons q (DRk.over q r)
    · rw [if_neg z, if_neg z]; exact .cons h (DRk.over q r)
theorem DRt.put {Av : Addr → Prop} {H : Hp} {k : List L2.Key} {v : V} {d : D} (q : DR Av H v d) {kvs : List (List L2.Key × V)} {ds : List (List L2.Key × D)} (r : DRt Av H kvs ds) : DRt Av H (putK kvs k v) (putD ds k d) := by
  unfold putK putD
  rw [r.any (p := fun x => decide (x = k))]
  split
  · exact r.over q
  · exact r.app (.cons q .nil)
theorem DRk.put {Av : Addr → Prop} {H : Hp} {k : L2.Key} {v : V} {d : D} (q : DR Av H v d) {kvs : List (L2.Key × V)} {ds : List (L2.Key × D)} (r : DRk Av H kvs ds) : DRk Av H (putK kvs k v) (putD ds k d) := by
  unfold putK putD
  rw [r.any (p := fun x => decide (x = k))]
  split
  · exact r.over q
  · exact r.app (.cons q .nil)
section
variable {g : Gd} {X : Cx} {o' i' value : Expr} {wo wi wv : WP} {pos pos' : Pos} {s : Stmt}
/-- d[k], o the dict -/
def mDGet (x y : D) (Q : RQ) : Prop := (∃ kvs k d, x = .dT kvs ∧ y = keyD k ∧ valD kvs k = some d ∧ Q false d) ∨ ∃ kvs k d, x = .dK kvs ∧ y = kD k ∧ valD kvs k = some d ∧ Q false d
theorem Rdv.keyD {Avs Av : Addr → Prop} {H : Hp} {v : V} {k : List L2.Key} (h : Rdv Avs Av H v (keyD k)) : ∃ b, v = .ref b ∧ H b = some (.tup (k.map L2.kV)) := by
  obtain ⟨p, vs, rfl, e, r, _⟩ := h.tup
  rw [r.kVs] at e
  exact ⟨p, rfl, e⟩
theorem Rdv.kD {Avs Av : Addr → Prop} {H : Hp} {v : V} {k : L2.Key} (h : Rdv Avs Av H v (kD k)) : v = L2.kV k := (h.dr (by cases k <;> rfl)).kV
theorem we_dget (hu : X.A.units + 64 < cLine) (ho : WR g X o' wo) (hi : WR g X i' wi) (hs : NoSl i' := by exact fun _ _ => rfl) : WE g X (.Subscript o' i' pos) (fun st Q => wo st fun _ x => wi st fun _ y => mDGet x y Q) := by
  obtain ⟨t, p, q⟩ := ho
  obtain ⟨t2, p2, q2⟩ := hi
  refine ⟨_, pe_dget (by omega) p p2 hs, fun Av B gh H0 o σ st H Q Qd hg F R hw hk => ?_⟩
  refine q Av B gh H0 o σ st H _ _ hg F R hw fun fr d v H1 k1 r1 hw1 => ?_
  refine q2 Av B gh H0 o σ st H1 _ _ hg F (R.mono F k1) hw1 fun fr2 d2 v2 H2 k2 r2 hd => ?_
  have r1 := r1.mono (fun a h => Avo.ta F h) (fun a h => .inl (F.ta a h)) k2
  rcases hd with ⟨kvs, k, d, rfl, rfl, e, hq⟩ | ⟨kvs, k, d, rfl, rfl, e, hq⟩
  · obtain ⟨p, vs, rfl, e1, r1⟩ := r1.dT
    obtain ⟨b, rfl, eb⟩ := r2.keyD
    obtain ⟨v, ev, rv⟩ := r1.look d e
    exact ⟨p, v, rfl, by rw [← ev]; exact DGet.t e1 eb, hk false d v H2 (k1.trans k2) (.old rv) hq⟩
  · obtain ⟨p, vs, rfl, e1, r1⟩ := r1.dK
    cases r2.kD
    obtain ⟨v, ev, rv⟩ := r1.look d e
    exact ⟨p, v, rfl, by rw [← ev]; exact DGet.k e1, hk false d v H2 (k1.trans k2) (.old rv) hq⟩
/-- k in d, k not in d -/
def mDIn (neg : Bool) (y x : D) (Q : RQ) : Prop := (∃ kvs k, x = .dT kvs ∧ y = keyD k ∧ Q false (.bl (if neg then !(valD kvs k).isSome else (valD kvs k).isSome))) ∨ ∃ kvs k, x = .dK kvs ∧ y = kD k ∧ Q false (.bl (if neg then !(valD kvs k).isSome else (valD kvs k).isSome))
theorem DRt.ask {Av : Addr → Prop} {H : Hp} {k : List L2.Key} {kvs : List (List L2.Key × V)} {ds : List (List L2.Key × D)} (r : DRt Av H kvs ds) : (valV kvs k).isSome = (valD ds k).isSome := by
  cases e : valD ds k with
  | none => rw [r.none e]; rfl
  | some d => obtain ⟨v, ev, _⟩ := r.look d e; rw [ev]; rfl
theorem DRk.ask {Av : Addr → Prop} {H : Hp} {k : L2.Key} {kvs : List (L2.Key × V)} {ds : List (L2.Key × D)} (r : DRk Av H kvs ds) : (valV kvs k).isSome = (valD ds k).isSome := by
  cases e : valD ds k with
  | none => rw [r.none e]; rfl
  | some d => obtain ⟨v, ev, _⟩ := r.look d e; rw [ev]; rfl
theorem we_din (hu : X.A.units + 64 < cLine) (hi : WR g X i' wi) (ho : WR g X o' wo) (hm : behindInMarks .In o' = false := by rfl) : WE g X (.Compare i' [.In] [o'] pos) (fun st Q => wi st fun _ y => wo st fun _ x => mDIn false y x Q) := by
  obtain ⟨t, p, q⟩ := hi
  obtain ⟨t2, p2, q2⟩ := ho
  refine ⟨_, pe_cmp (pc_din (by omega) p p2) hm, fun Av B gh H0 o σ st H Q Qd hg F R hw hk => ?_⟩
  refine q Av B gh H0 o σ st H _ _ hg F R hw fun fr d v H1 k1 r1 hw1 => ?_
  refine q2 Av B gh H0 o σ st H1 _ _ hg F (R.mono F k1) hw1 fun fr2 d2 v2 H2 k2 r2 hd => ?_
  have r1 := r1.mono (fun a h => Avo.ta F h) (fun a h => .inl (F.ta a h)) k2
  rcases hd with ⟨kvs, k, rfl, rfl, hq⟩ | ⟨kvs, k, rfl, rfl, hq⟩
  · obtain ⟨p, vs, rfl, e1, r2⟩ := r2.dT
    obtain ⟨b, rfl, eb⟩ := r1.keyD
    exact ⟨p, _, rfl, DGet.t e1 eb, by rw [r2.ask]; exact hk false _ _ H2 (k1.trans k2) (.old (.bl _)) hq⟩
  · obtain ⟨p, vs, rfl, e1, r2⟩ := r2.dK
    cases r1.kD
    exact ⟨p, _, rfl, DGet.k e1, by rw [r2.ask]; exact hk false _ _ H2 (k1.trans k2) (.old (.bl _)) hq⟩
theorem we_dnotin (hu : X.A.units + 64 < cLine) (hi : WR g X i' wi) (ho : WR g X o' wo) (hm : behindInMarks .NotIn o' = false := by rfl) : WE g X (.Compare i' [.NotIn] [o'] pos) (fun st Q => wi st fun _ y => wo st fun _ x => mDIn true y x Q) := by
  obtain ⟨t, p, q⟩ := hi
  obtain ⟨t2, p2, q2⟩ := ho
  refine ⟨_, pe_cmp (pc_dnotin (by omega) p p2) hm, fun Av B gh H0 o σ st H Q Qd hg F R hw hk => ?_⟩
  refine q Av B gh H0 o σ st H _ _ hg F R hw fun fr d v H1 k1 r1 hw1 => ?_
  refine q2 Av B gh H0 o σ st H1 _ _ hg F (R.mono F k1) hw1 fun fr2 d2 v2 H2 k2 r2 hd => ?_
  have r1 := r1.mono (fun a h => Avo.ta F h) (fun a h => .inl (F.ta a h)) k2
  rcases hd with ⟨kvs, k, rfl, rfl, hq⟩ | ⟨kvs, k, rfl, rfl, hq⟩
  · obtain ⟨p, vs, rfl, e1, r2⟩ := r2.dT
    obtain ⟨b, rfl, eb⟩ := r1.keyD
    exact ⟨p, _, rfl, DGet.t e1 eb, by rw [r2.ask]; exact hk false _ _ H2 (k1.trans k2) (.old (.bl _)) hq⟩
  · obtain ⟨p, vs, rfl, e1, r2⟩ := r2.dK
    cases r1.kD
    exact ⟨p, _, rfl, DGet.k e1, by rw [r2.ask]; exact hk false _ _ H2 (k1.trans k2) (.old (.bl _)) hq⟩
/-- name = {}, keys that are tuples -/
theorem ws_ownDT (i : Nat) {dpos : Pos} (hp : ∀ te, PE X (.Dict [] [] dpos) te → PS X s (tAsg te (gName i))) : WS g X s (fun De st => De.nx (st.set i (.ow (.dT [])))) := by
  refine ⟨_, hp _ pe_dnewT, fun Av B gh H0 o σ st H E De hg F R hw K => ?_⟩
  intro p hn
  have k : Kp g H (upd H p (.dT [])) := Kp.new R.kp.2 hn
  obtain ⟨o', R'⟩ := (R.addB F hg k hn (nt_of upd_same (fun _ z => nomatch z))).setOw (fun z => (R.bt p z).1 hn) (R.kp.free hg hn) (ds := .dT []) upd_same ⟨[], rfl, .nil⟩ i
  exact K.nx o' _ _ _ R' hw
/-- name = {}, other keys -/
theorem ws_ownDK (i : Nat) {dpos : Pos} (hp : ∀ te, PE X (.Dict [] [] dpos) te → PS X s (tAsg te (gName i))) : WS g X s (fun De st => De.nx (st.set i (.ow (.dK [])))) := by
  refine ⟨_, hp _ pe_dnewK, fun Av B gh H0 o σ st H E De hg F R hw K => ?_⟩
  intro p hn
  have k : Kp g H (upd H p (.dK [])) := Kp.new R.kp.2 hn
  obtain ⟨o', R'⟩ := (R.addB F hg k hn (nt_of upd_same (fun _ z => nomatch z))).setOw (fun z => (R.bt p z).1 hn) (R.kp.free hg hn) (ds := .dK []) upd_same ⟨[], rfl, .nil⟩ i
  exact K.nx o' _ _ _ R' hw
/-- name[k] = v, the slot's own dict -/
theorem ws_dput (i : Nat) (hu : X.A.units + 64 < cLine) (hv : WE g X value wv) (ho : PE X o' (tVar i)) (hi : WR g X i' wi) (hs : swapsWith value (some (.Subscript o' i' pos')) pos.line X.env = pure false := by rfl) :
    WS g X (.Assign [.Subscript o' i' pos'] value pos) (fun De st => (∃ c, st[i]? = some (.ow c)) ∧ wv st fun _ d => wi st fun _ y => (∃ kvs k, st[i]? = some (.ow (.dT kvs)) ∧ y = keyD k ∧ kvs.length < sizeLine ∧ De.nx (st.set i (.ow (.dT (putD kvs k d))))) ∨ ∃ kvs k, st[i]? = some (.ow (.dK kvs)) ∧ y = kD k ∧ kvs.length < sizeLine ∧ De.nx (st.set i (.ow (.dK (putD kvs k d))))) := by
  obtain ⟨t, p, q⟩ := hv
  obtain ⟨t2, p2, q2⟩ := hi
  refine ⟨_, ps_dput (by omega) ho p2 p hs, fun Av B gh H0 o σ st H E De hg F R hw K => ?_⟩
  obtain ⟨⟨c, hc⟩, hw⟩ := hw
  refine q Av B gh H0 o σ st H _ _ hg F R hw fun fr d v H1 k1 r1 hw1 => ?_
  have R1 := R.mono F k1
  obtain ⟨e1, _, _, _, _, _⟩ := R1.ow i c hc
  refine ⟨_, e1, q2 Av B gh H0 o σ st H1 _ _ hg F R1 hw1 fun fr2 y v2 H2 k2 r2 hd => ?_⟩
  have R2 := R1.mono F k2
  have rv := r1.dr.mv (Mv.avo F k2)
  rcases hd with ⟨kvs, k, hi, rfl, hz, hn⟩ | ⟨kvs, k, hi, rfl, hz, hn⟩
  · obtain ⟨_, _, _, u, e4, vs, rfl, r4⟩ := R2.ow i _ hi
    obtain ⟨b, rfl, eb⟩ := r2.keyD
    exact ⟨o i, _, rfl, DPut.t e4 eb (by rw [r4.len]; exact hz), K.nx o σ _ _ (R2.updOw F (ds' := .dT (putD kvs k d)) hi ⟨_, rfl, r4.put rv⟩) hn⟩
  · obtain ⟨_, _, _, u, e4, vs, rfl, r4⟩ := R2.ow i _ hi
    cases r2.kD
    exact ⟨o i, _, rfl, DPut.k e4 (by rw [r4.len]; exact hz), K.nx o σ _ _ (R2.updOw F (ds' := .dK (putD kvs k d)) hi ⟨_, rfl, r4.put rv⟩) hn⟩
/-- -e -/
theorem we_neg {a : Expr} {w : WP} (h : WE g X a w) : WE g X (.UnaryOp .USub a pos) (fun st Q => w st fun _ d => ∃ i, d = .int i ∧ Q false (.int (-i))) := by
  obtain ⟨t, p, q⟩ := h
  refine ⟨_, pe_un un_neg p, fun Av B gh H0 o σ st H Q Qd hg F R hw hk => ?_⟩
  refine q Av B gh H0 o σ st H _ _ hg F R hw fun fr d v H1 k1 r1 hd => ?_
  obtain ⟨i, rfl, hd⟩ := hd
  have ev : v = .int i := by cases r1.dr; rfl
  exact ⟨i, ev, hk false _ _ H1 k1 (.old (.int _)) hd⟩
end
end DW
namespace TupS
open PySem PySem.W PySem.Calls PyProof.Rows Builtin SrtO
/-- v is a tuple of these ints -/
def IsT (h : Heap) (v : Value) (ns : List Int) : Prop := ∃ (a : Addr) (items : Array Value), v = .ref a ∧ IsTup h a items ∧ IntsAre items.toList ns
theorem IsT.keeps {h h' : Heap} {v : Value} {ns : List Int} (x : IsT h v ns) (k : ∀ b o, v = .ref b → h.get? b = some o → o.cls = .type "tuple" → h'.get? b = some o) : IsT h' v ns := by
  obtain ⟨a, items, e, ⟨o, ho, hc, n, hd⟩, i⟩ := x
  exact ⟨a, items, e, ⟨o, k _ _ e ho hc, hc, n, hd⟩, i⟩
theorem IsT.type {M : Model} {h : Heap} {v : Value} {ns : List Int} (x : IsT h v ns) : Looks M h (typeOf v) (.type "tuple") := by
  obtain ⟨a, items, rfl, ⟨o, ho, hc, n, hd⟩, i⟩ := x
  rw [← hc]
  exact (Looks.ld ho).andThen .now
section
variable {prog : Program} {w : World} {A : Around} {E : Value → Shared → Prop} {s : Shared}
theorem lt_gen {v u : Value} {ns ms : List Int} {Q : Bool → Shared → Prop} (hu : A.units < cLine) (hv : IsT s.heap v ns) (hw : IsT s.heap u ms) (h : Q (HT.lexLt ns ms) s) : wpAny (model prog w) A (keyLt' general' v u) Q E s := by
  obtain ⟨a, items, rfl, ta, ia⟩ := hv
  obtain ⟨b, items2, rfl, tb, ib⟩ := hw
  exact kat_one _ _ (HT.lt_tupInts ta tb ia ib hu (by show W.BoolBack Q (.bool (HT.lexLt ns ms)) s; exact h))
theorem lt_one {v u : Value} {ns ms : List Int} {Q : Bool → Shared → Prop} (hu : A.units < cLine) (hv : IsT s.heap v ns) (hw : IsT s.heap u ms) (h : Q (HT.lexLt ns ms) s) : wpAny (model prog w) A (keyLt' oneType' v u) Q E s := by
  obtain ⟨a, items, rfl, ⟨⟨cls, dd, data, sl⟩, ho, hc, n, hd⟩, ia⟩ := hv
  obtain ⟨b, items2, rfl, ⟨⟨cls2, dd2, data2, sl2⟩, ho2, hc2, n2, hd2⟩, ib⟩ := hw
  simp only at hc hd hc2 hd2
  subst hc hd hc2 hd2
  rw [keyLt'_oneType, oneLt'_eq]
  simp only [if_true]
  refine wpAny_bind (wpAny_cRoomFor hu ?_)
  refine wpAny_bind (wpAny_callSpecialIfBound?_slot (show s.TypeIs (.ref a) "tuple" from ⟨_, ho, rfl⟩) PySem.F.slot_tuple_lt ?_)
  refine call_meets PySem.F.slot_tuple_lt ⟨_, ho, rfl⟩ PySem.F.entry_tuple_lt (PySem.F.args_tuple_lt_2 _ _) (HT.tuple_lt_ints a b items items2 n n2 dd dd2 sl sl2 ns ms ia ib) ⟨ho, ho2, ?_⟩
  exact wpAny_truthy_bool h
def goB : List Int → List Int → Bool → Bool
  | x :: xs, y :: ys, f => if x = y then goB xs ys f else decide (x < y)
  | _, _, f => f
theorem goB_lex : ∀ (ns ms : List Int), goB ns ms (decide (ns.length < ms.length)) = HT.lexLt ns ms
  | [], [] => rfl
  | [], _ :: _ => by simp [goB, HT.lexLt_nil_cons]
  | _ :: _, [] => by simp [goB, HT.lexLt_cons_nil]
  | x :: xs, y :: ys => by
    rw [HT.lexLt_cons, goB, ← goB_lex xs ys]
    simp
theorem katLex_go {fin : Bool} {Q : Bool → Shared → Prop} : ∀ (vs ws : List Value) (ns ms : List Int) (i : Nat), IntsAre vs ns → IntsAre ws ms → Q (goB ns ms fin) s → KatLex prog w A true fin Q (vs.zip ws) i s
  | _, _, _, _, i, .nil, hw, h => by
    rw [List.zip_nil_left]
    refine kat_nil ?_
    unfold goB at h
    exact h
  | _, _, _, _, i, .cons x t hv, .nil, h => by
    rw [List.zip_nil_right]
    exact kat_nil h
  | _, _, _, _, i, .cons x t hv, .cons y u hw, h => by
    rw [List.zip_cons_cons]
    rw [goB] at h
    refine kat_cons (SeqAt.EqAt.int_int x t y u prog w _ _ ?_)
    refine kat_go (fun e1 => ?_) (fun e1 => ?_)
    · have ex : x = y := by simpa using e1
      rw [if_pos ex] at h
      exact kat_yes (katLex_go _ _ _ _ (i + 1) hv hw h)
    · have ex : ¬ x = y := by simpa using e1
      rw [if_neg ex] at h
      refine kat_no ?_
      cases z : (true && i == 0) with
      | true => exact oneLt_int h
      | false => exact kat_one _ _ (PyProof.Rows.lt_int h)
theorem lt_tups {v u : Value} {ns ms : List Int} {Q : Bool → Shared → Prop} (hv : IsT s.heap v ns) (hw : IsT s.heap u ms) (h : Q (HT.lexLt ns ms) s) : wpAny (model prog w) A (keyLt' (tuples' true) v u) Q (fun _ _ => False) s := by
  obtain ⟨a, items, rfl, ⟨o, ho, hc, n, hd⟩, ia⟩ := hv
  obtain ⟨b, items2, rfl, ⟨o2, ho2, hc2, n2, hd2⟩, ib⟩ := hw
  refine kat_lt ho hd ho2 hd2 ?_
  have z1 : items.size = ns.length := by rw [← ia.length]; simp
  have z2 : items2.size = ms.length := by rw [← ib.length]; simp
  rw [z1, z2]
  refine katLex_go _ _ _ _ 0 ia ib ?_
  rw [goB_lex]; exact h
/-! ### the kind -/
inductive Fst (h : Heap) : List Value → List (Option Value) → Prop
  | nil : Fst h [] []
  | cons {a : Addr} {items : Array Value} {vs : List Value} {fs : List (Option Value)} : IsTup h a items → Fst h vs fs → Fst h (.ref a :: vs) (items[0]? :: fs)
theorem fst_go {M : Model} : ∀ {vs : List Value} {Q : List (Option Value) → Shared → Prop}, (∀ v ∈ vs, ∃ ns, IsT s.heap v ns) → (∀ fs, Fst s.heap vs fs → Q fs s) → wpAny M A (vs.mapM firstOfTuple') Q E s
  | [], Q, _, h => by
    rw [List.mapM_nil]
    exact wpAny_pure (h [] .nil)
  | v :: vs, Q, hp, h => by
    rw [List.mapM_cons]
    obtain ⟨ns, x⟩ := hp v List.mem_cons_self
    have ty := x.type (M := M)
    obtain ⟨a, items, rfl, t, ia⟩ := x
    obtain ⟨⟨cls, dd, data, sl⟩, ho, hc, n, hd⟩ := id t
    simp only at hc hd
    subst hc hd
    refine wpAny_bind ?_
    rw [kas_first_eq]
    refine wpAny_bind (ty.here ?_)
    rw [if_neg (by decide)]
    refine wpAny_bind (listItems_at ho rfl ?_)
    refine wpAny_pure ?_
    refine wpAny_bind (fst_go (fun u hu => hp u (List.mem_cons_of_mem _ hu)) fun fs hf => ?_)
    exact wpAny_pure (h _ (.cons t hf))
theorem Fst.none : ∀ {vs : List Value} {fs : List (Option Value)} {h : Heap}, Fst h vs fs → (∃ v ∈ vs, IsT h v []) → (fs.all (·.isSome)) = false
  | _, _, h, .nil, ⟨v, hv, _⟩ => by cases hv
  | _, _, h, .cons (a := a) (items := items) (vs := vs) t f, ⟨v, hv, x⟩ => by
    rw [List.all_cons]
    rcases List.mem_cons.mp hv with e | e
    · subst e
      obtain ⟨b, items2, e1, ⟨o2, ho2, hc2, n2, hd2⟩, i2⟩ := x
      cases e1
      obtain ⟨o, ho, hc, n, hd⟩ := t
      rw [ho] at ho2; cases ho2
      rw [hd] at hd2; cases hd2
      have z : items.toList = [] := by
        generalize items.toList = l at i2
        cases i2; rfl
      have z2 : items = #[] := by simpa using z
      subst z2
      simp
    · rw [f.none ⟨v, e, x⟩, Bool.and_false]
theorem firsts_T : ∀ {vs : List Value} {h : Heap}, (∀ v ∈ vs, ∃ x r, IsT h v (x :: r)) → ∃ fs, KatTups h vs fs ∧ fs.length = vs.length ∧ ∀ f ∈ fs, ∃ x t, f = Value.int x t
  | [], _, _ => ⟨[], trivial, rfl, fun f hf => by cases hf⟩
  | v :: vs, h, hp => by
    obtain ⟨fs, h1, h2, h3⟩ := firsts_T fun u hu => hp u (List.mem_cons_of_mem _ hu)
    obtain ⟨x, r, a, items, rfl, ⟨o, ho, hc, n, hd⟩, i⟩ := hp v List.mem_cons_self
    obtain ⟨t, rest, e⟩ : ∃ t rest, items.toList = Value.int x t :: rest := by
      generalize items.toList = l at i
      cases i with
      | cons _ t q => exact ⟨t, _, rfl⟩
    have e2 : items[0]? = some (Value.int x t) := by rw [← Array.getElem?_toList, e]; rfl
    refine ⟨.int x t :: fs, KatTups.cons ho hc hd e2 h1, by simp [h2], fun f hf => ?_⟩
    rcases List.mem_cons.mp hf with z | z
    · exact ⟨x, t, z⟩
    · exact h3 f z
theorem sortable {a : Addr} {vs : List Value} {k : Value → List Int} (h2 : 2 ≤ vs.length) (hu : A.units < cLine) (hp : ∀ v ∈ vs, IsT s.heap v (k v)) (ha : ∀ o, s.heap.get? a = some o → o.cls ≠ .type "tuple") : SortableO prog w A s a vs fun v u => HT.lexLt (k v) (k u) := by
  intro h' keep
  have hp' : ∀ v ∈ vs, IsT h' v (k v) := fun v hm => (hp v hm).keeps fun b o _ e c => keep b o (fun z => by subst z; exact ha o e c) e
  by_cases hne : ∀ v ∈ vs, ∃ x r, k v = x :: r
  · obtain ⟨fs, h1, h3, h4⟩ := firsts_T (h := h') (vs := vs) fun v hm => by
      obtain ⟨x, r, e⟩ := hne v hm
      exact ⟨x, r, e ▸ hp' v hm⟩
    refine ⟨tuples' true, fun Q E hq => ?_, fun p q hm hm' => lt_tups (s := { s with heap := h' }) (hp' _ hm) (hp' _ hm') ⟨rfl, rfl⟩⟩
    refine kat_kind (s := { s with heap := h' }) (T := .type "int") h1 (by omega) (fun f hm => ?_) (by rfl) ?_
    · obtain ⟨x, t, rfl⟩ := h4 f hm
      exact Looks.now
    · have e : (Value.type "int" != Value.type "tuple") = true := by first | decide +kernel | rfl | decide
      rw [e]
      exact hq
  · have hem : ∃ v ∈ vs, IsT h' v [] := by
      refine Classical.byContradiction fun z => hne fun v hv => ?_
      cases e : k v with
      | nil => exact absurd ⟨v, hv, e ▸ hp' v hv⟩ z
      | cons x r => exact ⟨x, r, rfl⟩
    have key : ∀ (Q : SortKind → Shared → Prop) (E : Value → Shared → Prop) (fs : List (Option Value)), Fst h' vs fs → (if (fs.toArray[0]?.bind id).isSome = true then Q general' { s with heap := h' } else Q oneType' { s with heap := h' }) →
        wpAny (model prog w) A (do
          if fs.toArray.all (·.isSome) then
            rule "list.sort.keys-are-tuples"
            return tuples' ((← oneTypeOnly' (fs.toArray.filterMap id)).any (· != .type "tuple"))
          if (fs.toArray[0]?.bind id).isSome then return general'
          return if (← oneTypeOnly' vs.toArray).isSome then oneType' else general') Q E { s with heap := h' } := by
      intro Q E fs hf hq
      rw [if_neg (by rw [List.all_toArray, hf.none hem]; simp)]
      by_cases z : (fs.toArray[0]?.bind id).isSome = true
      · rw [if_pos z] at hq ⊢
        exact wpAny_pure hq
      · rw [if_neg z] at hq ⊢
        rw [oneTypeOnly'_eq, List.mapM_toArray, map_eq_pure_bind]
        refine wpAny_bind (wpAny_bind (wpAny_bind (kas_mapM (r := Value.type "tuple") _ (fun v hv Q' hq => (IsT.type (hp' v hv)).here hq) (wpAny_pure ?_))))
        have hall : ((List.map (fun _ => Value.type "tuple") vs).toArray.all fun x => x == Value.type "tuple") = true := by
          simp only [List.all_toArray, List.all_map, List.all_eq_true]
          intro _ _
          rfl
        have h0 : (List.map (fun _ => Value.type "tuple") vs).toArray[0]? = some (Value.type "tuple") := by
          cases vs with
          | nil => simp at h2
          | cons v vs => simp
        rw [h0]
        simp only [hall, if_true]
        exact wpAny_pure (wpAny_pure (by simpa using hq))
    have kind : ∀ (Q : SortKind → Shared → Prop) (E : Value → Shared → Prop), (∀ fs, Fst h' vs fs → (if (fs.toArray[0]?.bind id).isSome = true then Q general' { s with heap := h' } else Q oneType' { s with heap := h' })) → wpAny (model prog w) A (keyKind' vs.toArray) Q E { s with heap := h' } := by
      intro Q E hq
      rw [keyKind'_eq, List.mapM_toArray, map_eq_pure_bind]
      refine wpAny_bind (wpAny_bind (fst_go (s := { s with heap := h' }) (fun v hv => ⟨_, hp' v hv⟩) fun fs hf => wpAny_pure ?_))
      exact key Q E fs hf (hq fs hf)
    have uniq : ∀ {vs fs gs}, Fst h' vs fs → Fst h' vs gs → fs = gs := by
      intro vs fs gs h1
      induction h1 generalizing gs with
      | nil => intro h2; cases h2; rfl
      | cons t f ih =>
        intro h2
        cases h2 with
        | cons t2 f2 =>
          obtain ⟨o, ho, hc, n, hd⟩ := t
          obtain ⟨o2, ho2, hc2, n2, hd2⟩ := t2
          rw [ho] at ho2; cases ho2
          rw [hd] at hd2; cases hd2
          rw [ih f2]
    have ex : ∃ fs, Fst h' vs fs := by
      have go : ∀ vs : List Value, (∀ v ∈ vs, ∃ ns, IsT h' v ns) → ∃ fs, Fst h' vs fs := by
        intro vs
        induction vs with
        | nil => intro _; exact ⟨[], .nil⟩
        | cons v vs ih =>
          intro hp
          obtain ⟨fs, hf⟩ := ih fun u hu => hp u (List.mem_cons_of_mem _ hu)
          obtain ⟨ns, a, items, rfl, t, _⟩ := hp v List.mem_cons_self
          exact ⟨_, .cons t hf⟩
      exact go vs fun v hv => ⟨_, hp' v hv⟩
    obtain ⟨fs, hf⟩ := ex
    by_cases z : (fs.toArray[0]?.bind id).isSome = true
    · exact ⟨general', fun Q E hq => kind Q E fun gs hg => by rw [uniq hg hf, if_pos z]; exact hq, fun p q hm hm' => lt_gen (s := { s with heap := h' }) hu (hp' _ hm) (hp' _ hm') ⟨rfl, rfl⟩⟩
    · exact ⟨oneType', fun Q E hq => kind Q E fun gs hg => by rw [uniq hg hf, if_neg z]; exact hq, fun p q hm hm' => lt_one (s := { s with heap := h' }) hu (hp' _ hm) (hp' _ hm') ⟨rfl, rfl⟩⟩
end
end TupS
namespace DW
open PySem PySem.Spec PyProof.Rows L2
/-! ### sorted(rows), sorted(rows, key=len) -/
def ltK (k : V → List Int) (x y : V) : Bool := HT.lexLt (k x) (k y)
def rSortTI (K : PySem.W.Frag) : List V → Hp → VK → Prop := fun vs H Q => ∃ (a : Addr) (xs : List V) (k : V → List Int), vs = [V.ref a] ∧ SqL K H a xs ∧ (∀ x ∈ xs, ∃ t, x = V.ref t ∧ H t = some (.tup ((k x).map V.int))) ∧
  ∀ ys p, SrtO.Srtd (ltK k) ys → SrtO.Stb (ltK k) ys xs → H p = none → Q (.ref p) (upd H p (.lst ys))
theorem isT_of {P : Program} {w : World} {H : Hp} {h : Heap} {t : Addr} {ns : List Int} (I : HOk P w H h) (e : H t = some (.tup (ns.map V.int))) : TupS.IsT h (.ref t) ns := by
  obtain ⟨_, its, r, o, ho, hc, n, hd⟩ := I _ _ e
  exact ⟨t, its.toArray, rfl, ⟨o, ho, hc, n, hd⟩, by simpa using r.ints⟩
section
variable {X : Cx}
theorem cr_sortTI (hu : X.A.units + 64 < cLine) : CallR X (.builtin "sorted") (rSortTI X.K) := by
  intro pins s σ H vs us Q I r h
  obtain ⟨a, xs, k, rfl, hs, hx, q⟩ := h
  obtain ⟨its, rv, hl, hz⟩ := I.list hs
  obtain ⟨u, rfl, ru⟩ := vals1 r
  obtain rfl : u = Value.ref a := ru
  obtain ⟨e1, e2⟩ := refs_back rv fun x m => by
    obtain ⟨t, e, _⟩ := hx x m
    exact ⟨t, e⟩
  have hp : ∀ v ∈ its, TupS.IsT s.heap v (k (backV v)) := fun v hv => by
    obtain ⟨t, rfl⟩ := e2 v hv
    have hm : V.ref t ∈ xs := by rw [e1]; exact List.mem_map.mpr ⟨_, hv, rfl⟩
    obtain ⟨t', e, ht⟩ := hx _ hm
    cases e
    exact isT_of I.hok ht
  refine SrtO.sorted_ord (NtL.swo_lexL (fun u => k (backV u))) hl.isList (by rw [← rv.length]; exact hz) (fun h2 h₁ a' ha kk => ?_) fun out h1 h2 => ?_
  · refine TupS.sortable (s := { s with heap := h₁ }) h2 (by show X.A.units + 1 + 1 < cLine; omega) (fun v hm => (hp v hm).keeps fun b o _ e _ => (kk b o e).2) fun o e => ?_
    have e' : some o = some (seqObj "list" its.toArray 0) := e.symm.trans ha
    cases e'
    intro c
    exact absurd (Value.type.inj c) (by decide)
  · have h3 : ∀ u ∈ out, ∃ a, u = Value.ref a := fun u hu => e2 u (h2.perm.mem_iff.mp hu)
    obtain ⟨n, hn⟩ := PyProof.Rows.sortedAll_at s.heap its out.toArray
    have hb : SrtO.Stb (ltK k) (out.map backV) xs := by
      rw [e1]
      exact SrtO.Stb.map (NtL.swo_lexL k) backV h2
    refine ⟨.ref _, upd H _ (.lst (out.map backV)), I.laid (t' := s.toks) (fun _ _ => PyProof.Rows.sortedAll_old) (Nat.le_succ _) ⟨?_, out, n, vals_back h3, hn⟩, rfl, q _ _ (SrtO.srtd_map h1) hb (I.hok.fresh (Nat.le_succ _))⟩
    rw [hb.len]
    exact hz
/-- sorted(e, key=len) -/
def tSortLen (K : PySem.W.Frag) (ta : TE) : TE := fun σ H Q => ta σ H fun x H1 => ∃ (a : Addr) (xs : List V) (k : V → Nat), x = V.ref a ∧ SqL K H1 a xs ∧ (∀ x ∈ xs, ∃ t ys, x = V.ref t ∧ H1 t = some (.tup ys) ∧ ys.length = k x) ∧
  ∀ p, H1 p = none → Q (.ref p) (upd H1 p (.lst (xs.mergeSort fun x y => decide ((k x : Int) ≤ (k y : Int)))))
theorem each_ex {α β : Type} {R : α → β → Prop} : ∀ {as : List α} {bs : List β}, PySem.W.EachIs R as bs → as.length = bs.length
  | _, _, .nil => rfl
  | _, _, .cons _ r => by rw [List.length_cons, List.length_cons, each_ex r]
theorem vals_each {P : V → Prop} : ∀ {xs : List V} {us : List Value}, Vals xs us → (∀ x ∈ xs, P x) → PySem.W.EachIs (fun (u : Value) (x : V) => RelV x u ∧ P x) us xs
  | _, _, .nil, _ => .nil
  | _, _, .cons r t, h => .cons ⟨r, h _ List.mem_cons_self⟩ (vals_each t fun x hx => h x (List.mem_cons_of_mem _ hx))
theorem each_vals {P : V → Prop} : ∀ {us : List Value} {xs : List V}, PySem.W.EachIs (fun (u : Value) (x : V) => RelV x u ∧ P x) us xs → Vals xs us
  | _, _, .nil => .nil
  | _, _, .cons r t => .cons r.1 (each_vals t)
theorem pe_sortLen {e : Expr} {ta : TE} {p p2 kpos pos : Pos} (hg : Gl X "sorted") (hm : X.mg "sorted" = none) (hg2 : Gl X "len") (hm2 : X.mg "len" = none) (hu : X.A.units + 64 < cLine) (ha : PE X e ta)
    (hs : starEach [e] X.env = (false, eval e X.env) :: starEach [] X.env := by rfl)
    (he : backTo pos (starEach [e] X.env) = (false, eval e X.env) :: backTo pos (starEach [] X.env) := by rfl) (hpl : (backTo pos (starEach [e] X.env)).any (·.1) = false := by rfl) :
    PE X (.Call (.Name "sorted" p) [e] [⟨some "key", .Name "len" p2, kpos⟩] pos) (tSortLen X.K ta) := by
  refine ⟨fun pins s σ H Q I h => ?_⟩
  refine wpAny_Call_Name_kw (ld_blt I hg hm (by decide +kernel : bootBuiltins "sorted" = some (.builtin "sorted")) ?_)
  refine PyProof.Rows.callWith_kw (thn ((pa_cons ha pa_nil hs).run pos pins s σ H (fun vs H1 => match vs with
      | [x] => ∃ (a : Addr) (xs : List V) (k : V → Nat), x = V.ref a ∧ SqL X.K H1 a xs ∧ (∀ x ∈ xs, ∃ t ys, x = V.ref t ∧ H1 t = some (.tup ys) ∧ ys.length = k x) ∧
          ∀ p, H1 p = none → Q (.ref p) (upd H1 p (.lst (xs.mergeSort fun x y => decide ((k x : Int) ≤ (k y : Int)))))
      | _ => False) I h) fun us s1 ⟨vs, H1, I1, r1, q1⟩ => ?_) he hpl rfl rfl
  match vs, r1, q1 with
  | [x], r1, q1 =>
    obtain ⟨a, xs, k, rfl, hs, hx, q⟩ := q1
    obtain ⟨u, rfl, ru⟩ := vals1 r1
    obtain rfl : u = Value.ref a := ru
    show wpAny _ _ (evalAll ((do let v ← eval (.Name "len" p2) X.env; standAt pos; pure v) :: [])) _ _ s1
    refine wpAny_evalAll_cons (wpAny_bind (ld_blt I1 hg2 hm2 (by decide +kernel : bootBuiltins "len" = some (.builtin "len")) (wpAny_bind (wpAny_standAt (wpAny_pure ?_)))))
    refine wpAny_evalAll_nil ?_
    obtain ⟨its, rv, hl, hz⟩ := I1.list hs
    show wpAny _ _ (call (.builtin "sorted") [.ref a] [(Str.ofString "key", .builtin "len")]) _ _ _
    have hlen := rv.length
    refine PySem.W.sorted_key_data (R := fun (u : Value) (x : V) => RelV x u ∧ ∃ t ys, x = V.ref t ∧ H1 t = some (.tup ys) ∧ ys.length = k x) (fun x : V => PyData.int (k x : Int)) hl.isList (vals_each rv hx) (PySem.W.AllAlike.of fun _ _ => by simp [PySem.W.alike]) (PySem.W.Sortable.others fun _ => ⟨by simp, by simp⟩) (by omega)
      (fun x _ => by show X.A.units + 2 + 0 < cLine; omega) (PyProof.Rows.ksk_s1 _ _) (fun _ => PyProof.Rows.ksk_l1 _ _) (fun x => PyProof.Rows.ksk_t4 "len" x) (fun v x hR hx h tk kp => ?_) fun out c h' tk kp hn hd hl2 ho => ?_
    · obtain ⟨r, t, ys, rfl, ht, hk⟩ := hR
      cases r
      obtain ⟨hz2, its2, r2, o, ho, hc, n, hd⟩ := I1.hok _ _ ht
      have hl2 := r2.length
      have hn := line63
      refine len_tuple (s := { s1 with heap := h, toks := tk }) (show IsTup h t its2.toArray from ⟨o, kp _ _ ho, hc, n, hd⟩) (by simp only [List.size_toArray] <;> omega) ?_
      refine ⟨h, _, rfl, fun _ _ e => e, ?_⟩
      have : ((its2.toArray.size : Nat) : Int) = (k (V.ref t) : Int) := by rw [List.size_toArray, ← hl2, hk]
      rw [this]
      exact .int _ _
    · rw [PySem.W.dataLe_int] at ho
      refine ⟨.ref _, upd H1 _ (.lst (xs.mergeSort fun x y => decide ((k x : Int) ≤ (k y : Int)))), I1.laid (t' := tk) kp (Nat.le_succ _) ⟨?_, out, c, each_vals ho, hd⟩, rfl, q _ (I1.hok.fresh (Nat.le_succ _))⟩
      rw [List.length_mergeSort]; exact hz
end
end DW
namespace DW
open PySem PySem.Spec PyProof.Rows L2
theorem map_int_inj : ∀ {a b : List Int}, a.map V.int = b.map V.int → a = b
  | [], [], _ => rfl
  | [], _ :: _, h => by simp at h
  | _ :: _, [], h => by simp at h
  | x :: a, y :: b, h => by
    rw [List.map_cons, List.map_cons] at h
    injection h with h1 h2
    injection h1 with h1
    rw [h1, map_int_inj h2]
/-- the ints of a tuple -/
noncomputable def tkey (H : Hp) (x : V) : List Int := open Classical in if h : ∃ r : List Int, ∃ t, x = V.ref t ∧ H t = some (.tup (r.map V.int)) then h.choose else []
theorem tkey_at {H : Hp} {t : Addr} {r : List Int} (e : H t = some (.tup (r.map V.int))) : tkey H (.ref t) = r := by
  have h : ∃ r : List Int, ∃ t', V.ref t = V.ref t' ∧ H t' = some (.tup (r.map V.int)) := ⟨r, t, rfl, e⟩
  unfold tkey
  rw [dif_pos h]
  obtain ⟨t', e1, e2⟩ := h.choose_spec
  cases e1
  rw [e] at e2
  injection e2 with e2
  injection e2 with e2
  exact (map_int_inj e2).symm
theorem DRs.rowsK {Avs : Addr → Prop} {H : Hp} : ∀ {xs : List V} {rows : List (List Int)}, DRs Avs H xs (rows.map tI) → xs.map (tkey H) = rows ∧ ∀ x ∈ xs, DR Avs H x (tI (tkey H x)) ∧ ∃ t, x = V.ref t ∧ H t = some (.tup ((tkey H x).map V.int))
  | _, [], .nil => ⟨rfl, fun x hx => by cases hx⟩
  | _, r :: rows, .cons h q => by
    obtain ⟨a, b⟩ := DRs.rowsK q
    have h' : DR Avs H _ (.tup (r.map D.int)) := h
    cases h' with
    | tup n e rs =>
      rename_i t vs
      rw [rs.ints] at e
      have k := tkey_at e
      refine ⟨by rw [List.map_cons, a, k], fun x hx => ?_⟩
      rcases List.mem_cons.mp hx with z | z
      · subst z; rw [k]; exact ⟨h, t, rfl, e⟩
      · exact b x z
theorem drs_keys {Avs : Addr → Prop} {H : Hp} : ∀ {xs : List V}, (∀ x ∈ xs, DR Avs H x (tI (tkey H x))) → DRs Avs H xs ((xs.map (tkey H)).map tI)
  | [], _ => .nil
  | x :: xs, h => .cons (h x List.mem_cons_self) (drs_keys fun y hy => h y (List.mem_cons_of_mem _ hy))
def mSortT : SemC := fun ds Q => ∃ rows : List (List Int), ds = [lT rows] ∧ ∀ out : List (List Int), out.Perm rows → out.Pairwise (fun a b => HT.lexLt b a = false) → Q true (lT out)
section
variable {g : Gd} {X : Cx}
theorem sc_sortT : SC g (rSortTI X.K) mSortT := by
  rintro Avs Av H ds vs Q Qd F r ⟨rows, rfl, hm⟩ hk
  obtain ⟨v, rfl, y⟩ := r.one
  obtain ⟨p, xs, rfl, e, q⟩ := y.lst
  obtain ⟨k1, k2⟩ := q.rowsK
  refine ⟨p, xs, tkey H, rfl, .inl (.inl e), fun x hx => (k2 x hx).2, fun ys p' h1 h2 hp => ?_⟩
  have hy : ∀ x ∈ ys, DR Avs H x (tI (tkey H x)) := fun x hx => (k2 x (h2.perm.mem_iff.mp hx)).1
  obtain ⟨kp, z⟩ := F.lst (drs_keys hy) hp
  refine hk true _ _ _ kp z (hm (ys.map (tkey H)) ?_ ?_)
  · rw [← k1]; exact h2.perm.map _
  · rw [List.pairwise_map]
    exact h1
theorem zip_of {Avs : Addr → Prop} {H : Hp} : ∀ {xs : List V} {ds : List D}, DRs Avs H xs ds → ∃ zs : List (V × D), xs = zs.map (·.1) ∧ ds = zs.map (·.2) ∧ ∀ z ∈ zs, DR Avs H z.1 z.2
  | _, _, .nil => ⟨[], rfl, rfl, fun z hz => by cases hz⟩
  | _, _, .cons (v := v) (d := d) h r => by
    obtain ⟨zs, rfl, rfl, hz⟩ := zip_of r
    refine ⟨(v, d) :: zs, rfl, rfl, fun z h' => ?_⟩
    rcases List.mem_cons.mp h' with e | e
    · subst e; exact h
    · exact hz z e
theorem of_zip {Avs : Addr → Prop} {H : Hp} : ∀ {zs : List (V × D)}, (∀ z ∈ zs, DR Avs H z.1 z.2) → DRs Avs H (zs.map (·.1)) (zs.map (·.2))
  | [], _ => .nil
  | z :: zs, h => .cons (h z List.mem_cons_self) (of_zip fun y hy => h y (List.mem_cons_of_mem _ hy))
/-- rows by length, stable -/
def byLen (rows : List (List Int)) : List (List Int) := rows.mergeSort fun a b => decide ((a.length : Int) ≤ (b.length : Int))
theorem we_sortLen {e : Expr} {w : WP} {p p2 kpos pos : Pos} (h : WR g X e w) (hg : Gl X "sorted") (hm : X.mg "sorted" = none) (hg2 : Gl X "len") (hm2 : X.mg "len" = none) (hu : X.A.units + 64 < cLine)
    (hs : starEach [e] X.env = (false, eval e X.env) :: starEach [] X.env := by rfl)
    (he : backTo pos (starEach [e] X.env) = (false, eval e X.env) :: backTo pos (starEach [] X.env) := by rfl) (hpl : (backTo pos (starEach [e] X.env)).any (·.1) = false := by rfl) :
    WE g X (.Call (.Name "sorted" p) [e] [⟨some "key", .Name "len" p2, kpos⟩] pos) (fun st Q => w st fun _ d => ∃ rows : List (List Int), d = lT rows ∧ Q true (lT (byLen rows))) := by
  obtain ⟨t, pe, q⟩ := h
  refine ⟨_, pe_sortLen hg hm hg2 hm2 hu pe hs he hpl, fun Av B gh H0 o σ st H Q Qd hgg F R hw hk => ?_⟩
  refine q Av B gh H0 o σ st H _ _ hgg F R hw fun fr d v H1 k1 r1 hd => ?_
  obtain ⟨rows, rfl, hd⟩ := hd
  obtain ⟨p', xs, rfl, e1, rs⟩ := Rdv.lst (ds := rows.map tI) r1
  obtain ⟨c1, c2⟩ := rs.rowsK
  refine ⟨p', xs, fun x => (tkey H1 x).length, rfl, .inl (.inl e1), fun x hx => ?_, fun l hl => ?_⟩
  · obtain ⟨_, t', rfl, et⟩ := c2 x hx
    exact ⟨t', _, rfl, et, by rw [List.length_map]⟩
  · have hp := (List.mergeSort_perm xs fun x y => decide (((tkey H1 x).length : Int) ≤ ((tkey H1 y).length : Int)))
    have z := drs_keys (xs := xs.mergeSort fun x y => decide (((tkey H1 x).length : Int) ≤ ((tkey H1 y).length : Int))) (fun x hx => (c2 x (hp.mem_iff.mp hx)).1)
    have e2 : (xs.mergeSort fun x y => decide (((tkey H1 x).length : Int) ≤ ((tkey H1 y).length : Int))).map (tkey H1) = byLen rows := by
      unfold byLen
      rw [List.map_mergeSort (s := fun a b : List Int => decide ((a.length : Int) ≤ (b.length : Int))) (fun a _ b _ => rfl), c1]
    rw [e2] at z
    obtain ⟨k2, r2⟩ := ((R.mono F k1).fit F).lst z hl
    refine hk true _ _ _ (k1.trans k2) ⟨r2.dr, fun _ => ?_⟩ hd
    obtain ⟨p', vs', ds', e1, e2, e3, e4, e5⟩ := r2.new rfl
    exact ⟨p', vs', ds', e1, e2, k1.free R.kp.2 e3, e4, e5⟩
end
/-! ### the order of groups -/
/-- before: by length, then as tuples -/
def gLe (a b : List Int) : Prop := a.length < b.length ∨ (a.length = b.length ∧ HT.lexLt b a = false)
theorem byLen_ord {l : List (List Int)} (h : l.Pairwise fun a b => HT.lexLt b a = false) : (byLen l).Pairwise gLe ∧ (byLen l).Perm l := by
  have hp : (byLen l).Perm l := List.mergeSort_perm _ _
  refine ⟨?_, hp⟩
  have tr : ∀ a b c : List Int, decide ((a.length : Int) ≤ (b.length : Int)) = true → decide ((b.length : Int) ≤ (c.length : Int)) = true → decide ((a.length : Int) ≤ (c.length : Int)) = true := by
    intro a b c h1 h2; simp at *; omega
  have to : ∀ a b : List Int, (decide ((a.length : Int) ≤ (b.length : Int)) || decide ((b.length : Int) ≤ (a.length : Int))) = true := by
    intro a b; simp; omega
  have srt : (byLen l).Pairwise fun a b => decide ((a.length : Int) ≤ (b.length : Int)) = true := List.pairwise_mergeSort tr to l
  rw [List.pairwise_iff_forall_sublist]
  intro a b hab
  have h1 : (a.length : Int) ≤ b.length := by
    have := (List.pairwise_iff_forall_sublist.mp srt) hab
    simpa using this
  by_cases e : a.length = b.length
  · right
    refine ⟨e, ?_⟩
    let c := l.filter fun r => decide (r.length = a.length)
    have hc : c.Pairwise fun x y => decide ((x.length : Int) ≤ (y.length : Int)) = true := by
      refine List.Pairwise.imp_of_mem (R := fun _ _ => True) (fun {x y} hx hy _ => ?_) (List.pairwise_of_forall fun _ _ => trivial)
      have e1 := (List.mem_filter.mp hx).2
      have e2 := (List.mem_filter.mp hy).2
      simp at e1 e2
      simp; omega
    have sub : c.Sublist (byLen l) := List.sublist_mergeSort tr to hc List.filter_sublist
    have sub2 : c.Sublist ((byLen l).filter fun r => decide (r.length = a.length)) := by
      have := sub.filter fun r => decide (r.length = a.length)
      rwa [show c.filter (fun r => decide (r.length = a.length)) = c by rw [List.filter_filter]; simp [c]] at this
    have len : ((byLen l).filter fun r => decide (r.length = a.length)).length = c.length := (hp.filter _).length_eq
    have eq := sub2.eq_of_length len.symm
    have ab : [a, b].Sublist ((byLen l).filter fun r => decide (r.length = a.length)) := by
      have := hab.filter fun r => decide (r.length = a.length)
      simpa [e] using this
    rw [← eq] at ab
    exact (List.pairwise_iff_forall_sublist.mp h) (ab.trans List.filter_sublist)
  · left; omega
theorem lex_eq : ∀ {a b : List Int}, HT.lexLt a b = false → HT.lexLt b a = false → a = b
  | [], [], _, _ => rfl
  | [], _ :: _, h, _ => by rw [HT.lexLt_nil_cons] at h; cases h
  | _ :: _, [], _, h => by rw [HT.lexLt_nil_cons] at h; cases h
  | x :: a, y :: b, h1, h2 => by
    rw [HT.lexLt_cons] at h1 h2
    by_cases e : x = y
    · subst e
      simp only [if_true] at h1 h2
      rw [lex_eq h1 h2]
    · rw [if_neg e] at h1
      rw [if_neg (Ne.symm e)] at h2
      simp at h1 h2
      omega
/-- two lists in order of the same groups are one -/
theorem ord_uniq : ∀ {l m : List (List Int)}, l.Pairwise gLe → m.Pairwise gLe → l.Perm m → l = m
  | [], m, _, _, h => h.nil_eq
  | x :: l, [], _, _, h => absurd h.length_eq (by simp)
  | x :: l, y :: m, hl, hm, h => by
    rw [List.pairwise_cons] at hl hm
    have e : x = y := by
      have h1 := h.mem_iff.mp (List.mem_cons_self (a := x) (l := l))
      have h2 := h.mem_iff.mpr (List.mem_cons_self (a := y) (l := m))
      rcases List.mem_cons.mp h1 with z | z
      · exact z
      · rcases List.mem_cons.mp h2 with z2 | z2
        · exact z2.symm
        · have a := hl.1 y z2
          have b := hm.1 x z
          unfold gLe at a b
          rcases a with a | ⟨a1, a2⟩ <;> rcases b with b | ⟨b1, b2⟩
          · omega
          · omega
          · omega
          · exact lex_eq b2 a2
    subst e
    rw [ord_uniq hl.2 hm.2 h.cons_inv]
end DW
namespace DW
open PySem PySem.Spec PyProof.Rows L2
section
variable {g : Gd} {X : Cx} {s : Stmt} {e1 : Expr} {w1 : WP} {dpos : Pos}
/-- a, d = e, {} -/
theorem parD_rel {Av B : Addr → Prop} {gh : V → D → Prop} {H0 H1 H2 H3 : Hp} {o : Nat → Addr} {σ : L2.St} {st : Sx} {c : Ct} {u : HO} (F : FrOk g Av H0) (hg : g.G H0) (R1 : Rel g Av B gh H0 o σ st H1) {v1 : V} {d1 : D} (r1 : DR (Avo Av B o st) H1 v1 d1)
    {p : Addr} (hn : H1 p = none) (e2 : H2 = upd H1 p u) (k3 : Kp g H2 H3) (hc : ∀ Av H, CR Av H c u) (i j : Nat) : ∃ o', Rel g Av B gh H0 o' ((σ.set i (some v1)).set j (some (.ref p))) ((st.set i (.val d1)).set j (.ow c)) H3 := by
  subst e2
  have k2 : Kp g H1 (upd H1 p u) := Kp.new R1.kp.2 hn
  have R1' := R1.setVal i r1
  have R3 := (R1'.addB F hg k2 hn (nt_of upd_same (hc (fun _ => False) (fun _ => none)).mt.ntup)).mono F k3
  have nT : ¬ g.W p := fun z => (R1.kp.2 |> fun h => g.tr H1 h p (g.wt p z)) hn
  exact R3.setOw (fun z => (R1.bt p z).1 hn) (R1.kp.free hg hn) (k3.1 p _ upd_same nT) (hc _ _) j
theorem ws_parDT (i j : Nat) (hij : i ≠ j) (h1 : WE g X e1 w1) (hp : ∀ t1 t2, PE X e1 t1 → PE X (.Dict [] [] dpos) t2 → PS X s (tPar i j (tCons t1 (tCons t2 tNil)))) :
    WS g X s (fun De st => w1 st fun _ d1 => De.nx ((st.set i (.val d1)).set j (.ow (.dT [])))) := by
  obtain ⟨t1, p1, q1⟩ := h1
  refine ⟨_, hp t1 _ p1 pe_dnewT, fun Av B gh H0 o σ st H E De hg F R hw K => ?_⟩
  refine q1 Av B gh H0 o σ st H _ _ hg F R hw fun f1 d1 v1 H1 k1 r1 hd p hn => ?_
  obtain ⟨o', R'⟩ := parD_rel F hg (R.mono F k1) r1.dr hn rfl (Kp.refl (Kp.new (R.mono F k1).kp.2 hn).2) (c := .dT []) (fun _ _ => ⟨[], rfl, .nil⟩) i j
  exact ⟨v1, _, rfl, K.nx o' _ _ _ R' hd⟩
theorem ws_parDTc (i j : Nat) (hij : i ≠ j) (h1 : WE g X e1 w1) (hp : ∀ t1 t2, PE X e1 t1 → PE X (.Dict [] [] dpos) t2 → PS X s (tAsg (tTup (tCons t1 (tCons t2 tNil))) (gTup X.K 2 (gNames [i, j])))) :
    WS g X s (fun De st => w1 st fun _ d1 => De.nx ((st.set i (.val d1)).set j (.ow (.dT [])))) := by
  obtain ⟨t1, p1, q1⟩ := h1
  refine ⟨_, hp t1 _ p1 pe_dnewT, fun Av B gh H0 o σ st H E De hg F R hw K => ?_⟩
  refine q1 Av B gh H0 o σ st H _ _ hg F R hw fun f1 d1 v1 H1 k1 r1 hd p hn => ?_
  refine ⟨le_line (by simp), fun a ha => ?_⟩
  have R1 := R.mono F k1
  have k2 : Kp g H1 (upd H1 p (.dT [])) := Kp.new R1.kp.2 hn
  obtain ⟨o', R'⟩ := parD_rel F hg R1 r1.dr hn rfl (Kp.new k2.2 ha) (c := .dT []) (fun _ _ => ⟨[], rfl, .nil⟩) i j
  exact ⟨a, _, rfl, .inl (.inl upd_same), rfl, _, _, rfl, _, _, rfl, rfl, K.nx o' _ _ _ R' hd⟩
theorem ws_parDK (i j : Nat) (hij : i ≠ j) (h1 : WE g X e1 w1) (hp : ∀ t1 t2, PE X e1 t1 → PE X (.Dict [] [] dpos) t2 → PS X s (tPar i j (tCons t1 (tCons t2 tNil)))) :
    WS g X s (fun De st => w1 st fun _ d1 => De.nx ((st.set i (.val d1)).set j (.ow (.dK [])))) := by
  obtain ⟨t1, p1, q1⟩ := h1
  refine ⟨_, hp t1 _ p1 pe_dnewK, fun Av B gh H0 o σ st H E De hg F R hw K => ?_⟩
  refine q1 Av B gh H0 o σ st H _ _ hg F R hw fun f1 d1 v1 H1 k1 r1 hd p hn => ?_
  obtain ⟨o', R'⟩ := parD_rel F hg (R.mono F k1) r1.dr hn rfl (Kp.refl (Kp.new (R.mono F k1).kp.2 hn).2) (c := .dK []) (fun _ _ => ⟨[], rfl, .nil⟩) i j
  exact ⟨v1, _, rfl, K.nx o' _ _ _ R' hd⟩
end
end DW
namespace HL
/-- members less the rows that they meet -/
def meet (P : List Int) (r : List Int) : Bool := P.any fun x => r.contains x
def short (rs : List (List Int)) (P : List Int) : Int := (P.length : Int) - (rs.countP (meet P) : Int)
theorem meet_iff {P r : List Int} : meet P r = true ↔ ∃ x, x ∈ P ∧ x ∈ r := by
  unfold meet; simp [List.any_eq_true]
theorem meet_mono {P Q r : List Int} (h : ∀ x, x ∈ P → x ∈ Q) (m : meet P r = true) : meet Q r = true := by
  rw [meet_iff] at m ⊢
  obtain ⟨x, a, b⟩ := m
  exact ⟨x, h x a, b⟩
theorem countP_mono' {α : Type} {p q : α → Bool} (h : ∀ x, p x = true → q x = true) : ∀ l : List α, l.countP p ≤ l.countP q := fun l => List.countP_mono_left fun x _ => h x
theorem short_nil (rs : List (List Int)) : short rs [] = 0 := by
  unfold short
  have : rs.countP (meet []) = 0 := by
    rw [List.countP_eq_zero]; intro r _; simp [meet]
  rw [this]; simp
theorem short_cons_le {r : List Int} {rs : List (List Int)} {P : List Int} : short (r :: rs) P ≤ short rs P ∧ short rs P ≤ short (r :: rs) P + 1 := by
  unfold short
  rw [List.countP_cons]
  split <;> constructor <;> omega
theorem countP_sub : ∀ (rs : List (List Int)) (G : List Int) (p q : Int → Bool),
    rs.countP (meet (G.filter fun x => p x || q x)) + rs.countP (meet (G.filter fun x => p x && q x)) ≤ rs.countP (meet (G.filter p)) + rs.countP (meet (G.filter q))
  | [], _, _, _ => by simp
  | r :: rs, G, p, q => by
    have ih := countP_sub rs G p q
    simp only [List.countP_cons]
    have h1 : meet (G.filter fun x => p x || q x) r = true → meet (G.filter p) r = true ∨ meet (G.filter q) r = true := by
      intro h
      rw [meet_iff] at h
      obtain ⟨x, a, b⟩ := h
      rw [List.mem_filter] at a
      rcases Bool.or_eq_true _ _ ▸ a.2 with c | c
      · exact .inl (meet_iff.mpr ⟨x, List.mem_filter.mpr ⟨a.1, c⟩, b⟩)
      · exact .inr (meet_iff.mpr ⟨x, List.mem_filter.mpr ⟨a.1, c⟩, b⟩)
    have h2 : meet (G.filter fun x => p x && q x) r = true → meet (G.filter p) r = true ∧ meet (G.filter q) r = true := by
      intro h
      rw [meet_iff] at h
      obtain ⟨x, a, b⟩ := h
      rw [List.mem_filter, Bool.and_eq_true] at a
      exact ⟨meet_iff.mpr ⟨x, List.mem_filter.mpr ⟨a.1, a.2.1⟩, b⟩, meet_iff.mpr ⟨x, List.mem_filter.mpr ⟨a.1, a.2.2⟩, b⟩⟩
    cases a : meet (G.filter fun x => p x || q x) r <;> cases b : meet (G.filter fun x => p x && q x) r <;> cases c : meet (G.filter p) r <;> cases d : meet (G.filter q) r <;> simp [a, b, c, d] at h1 h2 ⊢ <;> omega
theorem filter_len (p q : Int → Bool) : ∀ G : List Int, (G.filter fun x => p x || q x).length + (G.filter fun x => p x && q x).length = (G.filter p).length + (G.filter q).length
  | [] => rfl
  | x :: G => by
    have ih := filter_len p q G
    simp only [List.filter_cons]
    cases p x <;> cases q x <;> simp <;> omega
theorem submod (rs : List (List Int)) (G : List Int) (p q : Int → Bool) : short rs (G.filter p) + short rs (G.filter q) ≤ short rs (G.filter fun x => p x || q x) + short rs (G.filter fun x => p x && q x) := by
  unfold short
  have a := countP_sub rs G p q
  have b := filter_len p q G
  omega
/-- a part is what of the group is in it -/
theorem sub_filter : ∀ {P G : List Int}, P.Sublist G → G.Nodup → P = G.filter fun x => P.contains x
  | _, _, .slnil, _ => rfl
  | P, x :: G, .cons _ h, n => by
    rw [List.nodup_cons] at n
    have nx : P.contains x = false := by
      rw [List.contains_eq_mem]; exact decide_eq_false fun z => n.1 (h.subset z)
    rw [List.filter_cons, nx]
    simp only [Bool.false_eq_true, if_false]
    exact sub_filter h n.2
  | x :: P, _ :: G, .cons₂ _ h, n => by
    rw [List.nodup_cons] at n
    rw [List.filter_cons]
    have e : (x :: P).contains x = true := by simp
    rw [e]
    simp only [if_true]
    congr 1
    rw [List.filter_congr (q := fun y => P.contains y)]
    · exact sub_filter h n.2
    · intro y hy
      have : y ≠ x := fun z => n.1 (z ▸ hy)
      simp [List.contains_cons, this]
/-- M is the greatest shortage of the parts of G -/
structure Mx (rs : List (List Int)) (G : List Int) (M : Int) : Prop where
  at_ : ∃ P, P.Sublist G ∧ short rs P = M
  le : ∀ P, P.Sublist G → short rs P ≤ M
theorem mx_ex (rs : List (List Int)) (G : List Int) : ∃ M, Mx rs G M := by
  have key : ∀ n : Nat, (∀ P, P.Sublist G → short rs P ≤ (n : Int)) → ∃ M, Mx rs G M := by
    intro n
    induction n with
    | zero => intro h; exact ⟨0, ⟨[], List.nil_sublist _, short_nil rs⟩, h⟩
    | succ n ih =>
      intro h
      by_cases e : ∃ P, P.Sublist G ∧ short rs P = ((n + 1 : Nat) : Int)
      · exact ⟨_, e, h⟩
      · refine ih fun P hP => ?_
        have a := h P hP
        have b : short rs P ≠ ((n + 1 : Nat) : Int) := fun z => e ⟨P, hP, z⟩
        omega
  refine key G.length fun P hP => ?_
  have := hP.length_le
  unfold short; omega
theorem Mx.nonneg {rs : List (List Int)} {G : List Int} {M : Int} (m : Mx rs G M) : 0 ≤ M := by
  have := m.le [] (List.nil_sublist _)
  rw [short_nil] at this; exact this
theorem Mx.uniq {rs : List (List Int)} {G : List Int} {M N : Int} (m : Mx rs G M) (n : Mx rs G N) : M = N := by
  obtain ⟨P, h1, h2⟩ := m.at_
  obtain ⟨Q, h3, h4⟩ := n.at_
  have a := m.le Q h3
  have b := n.le P h1
  omega
/-- two parts of the greatest shortage have it where they meet -/
theorem Mx.inter {rs : List (List Int)} {G : List Int} {M : Int} (m : Mx rs G M) {p q : Int → Bool} (hp : short rs (G.filter p) = M) (hq : short rs (G.filter q) = M) : short rs (G.filter fun x => p x && q x) = M := by
  have a := submod rs G p q
  have b := m.le _ (List.filter_sublist (p := fun x => p x || q x) (l := G))
  have c := m.le _ (List.filter_sublist (p := fun x => p x && q x) (l := G))
  omega
/-- the least one is in all of them -/
theorem Mx.least {rs : List (List Int)} {G : List Int} {M : Int} (hG : G.Nodup) (m : Mx rs G M) : ∃ T, T.Sublist G ∧ short rs T = M ∧ ∀ P, P.Sublist G → short rs P = M → ∀ x, x ∈ T → x ∈ P := by
  -- one of the least length
  have key : ∀ n : Nat, ∀ P, P.Sublist G → short rs P = M → P.length ≤ n → ∃ T, T.Sublist G ∧ short rs T = M ∧ ∀ Q, Q.Sublist G → short rs Q = M → T.length ≤ Q.length := by
    intro n
    induction n with
    | zero => intro P h1 h2 h3; exact ⟨P, h1, h2, fun Q _ _ => by omega⟩
    | succ n ih =>
      intro P h1 h2 h3
      by_cases e : ∃ Q, Q.Sublist G ∧ short rs Q = M ∧ Q.length ≤ n
      · obtain ⟨Q, a, b, c⟩ := e; exact ih Q a b c
      · refine ⟨P, h1, h2, fun Q a b => ?_⟩
        by_cases c : Q.length ≤ n
        · exact absurd ⟨Q, a, b, c⟩ e
        · omega
  obtain ⟨P0, h1, h2⟩ := m.at_
  obtain ⟨T, t1, t2, t3⟩ := key P0.length P0 h1 h2 (Nat.le_refl _)
  refine ⟨T, t1, t2, fun P p1 p2 x hx => ?_⟩
  have eT := sub_filter t1 hG
  have eP := sub_filter p1 hG
  have z := m.inter (p := fun y => T.contains y) (q := fun y => P.contains y) (by rw [← eT]; exact t2) (by rw [← eP]; exact p2)
  have l := t3 _ List.filter_sublist z
  have e2 : (G.filter fun y => T.contains y && P.contains y) = T.filter fun y => P.contains y := by
    have : (G.filter fun y => T.contains y && P.contains y) = (G.filter fun y => T.contains y).filter fun y => P.contains y := by
      rw [List.filter_filter]
      exact List.filter_congr fun y _ => Bool.and_comm _ _
    rw [this, ← eT]
  rw [e2] at l
  have e3 := List.filter_sublist (p := fun y => P.contains y) (l := T)
  have e4 := e3.eq_of_length_le l
  have e5 := (List.filter_eq_self.mp e4) x hx
  simpa using e5
/-! ### what the tables say -/
def can : List (List Int) → List Int → Bool
  | [], P => P.isEmpty
  | r :: rs, P => can rs P || (List.range P.length).any fun k => r.contains (P.getD k 0) && can rs (P.eraseIdx k)
theorem mem_eraseIdx_ne {P : List Int} (n : P.Nodup) {k : Nat} (hk : k < P.length) {x : Int} : x ∈ P.eraseIdx k ↔ x ∈ P ∧ x ≠ P.getD k 0 := by
  have e : P.getD k 0 = P[k] := by simp [List.getD_eq_getElem?_getD, hk]
  rw [e, List.mem_eraseIdx_iff_getElem]
  constructor
  · rintro ⟨i, h1, h2, rfl⟩
    refine ⟨List.getElem_mem _, fun z => h2 ?_⟩
    exact (List.getElem_inj n).mp z
  · rintro ⟨h1, h2⟩
    obtain ⟨i, h3, rfl⟩ := List.getElem_of_mem h1
    exact ⟨i, h3, fun z => h2 (by subst z; rfl), rfl⟩
theorem sub_erase {P Q : List Int} (n : P.Nodup) {k : Nat} (hk : k < P.length) (h : Q.Sublist P) (hx : P.getD k 0 ∉ Q) : Q.Sublist (P.eraseIdx k) := by
  have n2 : (P.eraseIdx k).Nodup := n.sublist (List.eraseIdx_sublist _ _)
  have e1 := sub_filter h n
  have e2 : P.filter (fun x => Q.contains x) = (P.eraseIdx k).filter fun x => Q.contains x := by
    have d : P = P.take k ++ P[k] :: P.drop (k + 1) := by simp
    rw [List.eraseIdx_eq_take_drop_succ]
    conv => lhs; rw [d]
    rw [List.filter_append, List.filter_append, List.filter_cons]
    have e : P.getD k 0 = P[k] := by simp [List.getD_eq_getElem?_getD, hk]
    rw [e] at hx
    have : Q.contains P[k] = false := by rw [List.contains_eq_mem]; exact decide_eq_false hx
    rw [this]; simp
  rw [e1, e2]
  exact List.filter_sublist
theorem can_short : ∀ (rs : List (List Int)) (P : List Int), P.Nodup → can rs P = true → ∀ Q, Q.Sublist P → short rs Q ≤ 0
  | [], P, _, h, Q, hQ => by
    simp only [can, List.isEmpty_iff] at h
    subst h
    rw [List.sublist_nil.mp hQ, short_nil]; exact Int.le_refl _
  | r :: rs, P, n, h, Q, hQ => by
    simp only [can, Bool.or_eq_true, List.any_eq_true, List.mem_range, Bool.and_eq_true] at h
    rcases h with h | ⟨k, hk, hr, hc⟩
    · have := can_short rs P n h Q hQ
      have := (short_cons_le (r := r) (rs := rs) (P := Q)).1
      omega
    · have n2 : (P.eraseIdx k).Nodup := n.sublist (List.eraseIdx_sublist _ _)
      by_cases hx : P.getD k 0 ∈ Q
      · let Q' := Q.filter fun x => x != P.getD k 0
        have s1 : Q'.Sublist P := List.filter_sublist.trans hQ
        have s2 := sub_erase n hk s1 (by simp [Q'])
        have a := can_short rs _ n2 hc Q' s2
        have nQ : Q.Nodup := n.sublist hQ
        have l : Q.length ≤ Q'.length + 1 := by
          have e : Q' = Q.erase (P.getD k 0) := by
            rw [List.Nodup.erase_eq_filter nQ]
          rw [e, List.length_erase_of_mem hx]; omega
        have c : rs.countP (meet Q') ≤ rs.countP (meet Q) := countP_mono' (fun r h => meet_mono (fun x hx => (List.mem_filter.mp hx).1) h) rs
        have d : meet Q r = true := meet_iff.mpr ⟨_, hx, by simpa using hr⟩
        unfold short at a ⊢
        rw [List.countP_cons, d]
        simp only [if_true]
        omega
      · have s2 := sub_erase n hk hQ hx
        have := can_short rs _ n2 hc Q s2
        have := (short_cons_le (r := r) (rs := rs) (P := Q)).1
        omega
theorem short_can : ∀ (rs : List (List Int)) (P : List Int), P.Nodup → (∀ Q, Q.Sublist P → short rs Q ≤ 0) → can rs P = true
  | [], P, n, h => by
    have := h P (List.Sublist.refl _)
    simp only [short, List.countP_nil] at this
    simp only [can, List.isEmpty_iff]
    exact List.length_eq_zero_iff.mp (by omega)
  | r :: rs, P, n, h => by
    simp only [can, Bool.or_eq_true, List.any_eq_true, List.mem_range, Bool.and_eq_true]
    by_cases e : ∀ Q, Q.Sublist P → short rs Q ≤ 0
    · exact .inl (short_can rs P n e)
    · right
      have e2 : ∃ Q, Q.Sublist P ∧ 0 < short rs Q := Classical.byContradiction fun z => e fun Q hQ => Classical.byContradiction fun z2 => z ⟨Q, hQ, by omega⟩
      obtain ⟨Q0, q1, q2⟩ := e2
      have le : ∀ Q, Q.Sublist P → short rs Q ≤ 1 := fun Q hQ => by
        have := h Q hQ
        have := (short_cons_le (r := r) (rs := rs) (P := Q)).2
        omega
      have m : Mx rs P 1 := ⟨⟨Q0, q1, by have := le Q0 q1; omega⟩, le⟩
      obtain ⟨T, t1, t2, t3⟩ := m.least n
      have d : meet T r = true := by
        have := h T t1
        unfold short at this t2
        rw [List.countP_cons] at this
        cases z : meet T r with
        | true => rfl
        | false => rw [z] at this; simp only [Bool.false_eq_true, if_false] at this; omega
      obtain ⟨x, hx, hr⟩ := meet_iff.mp d
      obtain ⟨k, hk, rfl⟩ := List.getElem_of_mem (t1.subset hx)
      have ex : P.getD k 0 = P[k] := by simp [List.getD_eq_getElem?_getD, hk]
      refine ⟨k, hk, by rw [ex]; simpa using hr, short_can rs _ (n.sublist (List.eraseIdx_sublist _ _)) fun Q hQ => ?_⟩
      have hQP := hQ.trans (List.eraseIdx_sublist _ _)
      by_cases z : short rs Q = 1
      · have := t3 Q hQP z _ hx
        have := ((mem_eraseIdx_ne n hk).mp (hQ.subset this)).2
        exact absurd ex.symm this
      · have := le Q hQP
        omega
theorem can_iff {rs : List (List Int)} {P : List Int} (n : P.Nodup) : can rs P = true ↔ Mx rs P 0 :=
  ⟨fun h => ⟨⟨[], List.nil_sublist _, short_nil rs⟩, can_short rs P n h⟩, fun m => short_can rs P n m.le⟩
theorem short_rev (rs : List (List Int)) (P : List Int) : short rs.reverse P = short rs P := by unfold short; rw [List.countP_reverse]
theorem Mx.rev {rs : List (List Int)} {P : List Int} {M : Int} (m : Mx rs P M) : Mx rs.reverse P M := ⟨let ⟨Q, a, b⟩ := m.at_; ⟨Q, a, by rw [short_rev]; exact b⟩, fun Q h => by rw [short_rev]; exact m.le Q h⟩
/-! ### ranks -/
theorem erase_len {P : List Int} {k : Nat} (hk : k < P.length) : (P.eraseIdx k).length + 1 = P.length := by
  rw [List.length_eraseIdx, if_pos hk]; omega
/-- one member less lacks at most one less -/
theorem Mx.erase_le {rs : List (List Int)} {P : List Int} {M N : Int} (n : P.Nodup) (m : Mx rs P M) {k : Nat} (hk : k < P.length) (m2 : Mx rs (P.eraseIdx k) N) : M ≤ N + 1 ∧ N ≤ M := by
  constructor
  · obtain ⟨Q, h1, h2⟩ := m.at_
    let Q' := Q.filter fun x => x != P.getD k 0
    have s1 : Q'.Sublist P := List.filter_sublist.trans h1
    have s2 := sub_erase n hk s1 (by simp [Q'])
    have a := m2.le Q' s2
    have nQ : Q.Nodup := n.sublist h1
    have l : Q.length ≤ Q'.length + 1 := by
      have e : Q' = Q.erase (P.getD k 0) := by
        rw [List.Nodup.erase_eq_filter nQ]
      rw [e, List.length_erase]; split <;> omega
    have c : rs.countP (meet Q') ≤ rs.countP (meet Q) := countP_mono' (fun r h => meet_mono (fun x hx => (List.mem_filter.mp hx).1) h) rs
    unfold short at a h2
    omega
  · obtain ⟨Q, h1, h2⟩ := m2.at_
    have := m.le Q (h1.trans (List.eraseIdx_sublist _ _))
    omega
theorem Mx.erase_at {rs : List (List Int)} {P : List Int} {M : Int} (n : P.Nodup) (m : Mx rs P M) (h : 0 < M) : ∃ k, k < P.length ∧ Mx rs (P.eraseIdx k) (M - 1) := by
  obtain ⟨T, t1, t2, t3⟩ := m.least n
  cases T with
  | nil => rw [short_nil] at t2; omega
  | cons x T =>
    obtain ⟨k, hk, e⟩ := List.getElem_of_mem (t1.subset (List.mem_cons_self))
    have ex : P.getD k 0 = x := by simp [List.getD_eq_getElem?_getD, hk, e]
    obtain ⟨N, m2⟩ := mx_ex rs (P.eraseIdx k)
    refine ⟨k, hk, ?_⟩
    have a := m.erase_le n hk m2
    have b : N ≠ M := fun z => by
      obtain ⟨Q, h1, h2⟩ := m2.at_
      have := t3 Q (h1.trans (List.eraseIdx_sublist _ _)) (h2.trans z) x List.mem_cons_self
      have := ((mem_eraseIdx_ne n hk).mp (h1.subset this)).2
      exact this ex.symm
    have : N = M - 1 := by omega
    rw [← this]; exact m2
/-! ### the longest placeable parts -/
theorem Mx.full_ge {rs : List (List Int)} : ∀ (m : Nat) {G : List Int} {M : Int}, M = (m : Int) → G.Nodup → Mx rs G M → ∃ P, P.Sublist G ∧ can rs P = true ∧ (P.length : Int) = (G.length : Int) - M
  | 0, G, M, e, n, h => ⟨G, List.Sublist.refl _, (can_iff n).mpr (by subst e; exact h), by subst e; simp⟩
  | m + 1, G, M, e, n, h => by
    obtain ⟨k, hk, h2⟩ := h.erase_at n (by omega)
    obtain ⟨P, p1, p2, p3⟩ := Mx.full_ge m (by omega) (n.sublist (List.eraseIdx_sublist _ _)) h2
    have := erase_len hk
    exact ⟨P, p1.trans (List.eraseIdx_sublist _ _), p2, by omega⟩
theorem filter_not_len (p : Int → Bool) : ∀ G : List Int, (G.filter p).length + (G.filter fun x => !p x).length = G.length
  | [] => rfl
  | x :: G => by
    have ih := filter_not_len p G
    simp only [List.filter_cons]
    cases p x <;> simp <;> omega
theorem Mx.full_le {rs : List (List Int)} {G P : List Int} {M : Int} (n : G.Nodup) (h : Mx rs G M) (hP : P.Sublist G) (c : can rs P = true) : (P.length : Int) ≤ (G.length : Int) - M := by
  obtain ⟨Q, q1, q2⟩ := h.at_
  have nP := n.sublist hP
  have a := ((can_iff nP).mp c).le (P.filter fun x => Q.contains x) List.filter_sublist
  have b := filter_not_len (fun x => Q.contains x) P
  have d : (P.filter fun x => !Q.contains x).length ≤ (G.filter fun x => !Q.contains x).length := (hP.filter _).length_le
  have e := filter_not_len (fun x => Q.contains x) G
  rw [← sub_filter q1 n] at e
  have f : rs.countP (meet (P.filter fun x => Q.contains x)) ≤ rs.countP (meet Q) := countP_mono' (fun r h => meet_mono (fun x hx => by simpa using (List.mem_filter.mp hx).2) h) rs
  unfold short at a q2
  omega
end HL
namespace DW
open PySem PySem.Spec PyProof.Rows L2
theorem drt_bools {Av : Addr → Prop} {H : Hp} {f : List Int → Bool} {k : List Int → List L2.Key} : ∀ {gs : List (List Int)} {kvs : List (List L2.Key × V)}, DRt Av H kvs (gs.map fun x => (k x, .bl (f x))) → kvs = gs.map fun x => (k x, V.bl (f x))
  | [], _, .nil => rfl
  | x :: gs, _, .cons h r => by
    cases h
    rw [drt_bools r]; rfl
theorem valV_map1 {κ : Type} [DecidableEq κ] {k : List Int → κ} {w : List Int → V} {x : List Int} (inj : ∀ a b, k a = k b → a = b) : ∀ {gs : List (List Int)}, x ∈ gs → valV (gs.map fun x => (k x, w x)) (k x) = some (w x)
  | y :: gs, h => by
    unfold valV
    rw [List.map_cons, List.find?_cons]
    by_cases e : k y = k x
    · have := inj _ _ e
      subst this
      simp
    · simp only [e, decide_false]
      rcases List.mem_cons.mp h with z | z
      · subst z; exact absurd rfl e
      · exact valV_map1 inj z
def rLenSeq (K : PySem.W.Frag) : List V → Hp → VK → Prop := fun xs H Q => ∃ p ys, xs = [.ref p] ∧ (SqL K H p ys ∨ SqT K H p ys) ∧ Q (.int ys.length) H
/-- [len(x) for x in d if d[x]] -/
theorem we_lenKeys {g : Gd} {X : Cx} {e : Expr} (k : List Int → List L2.Key) (inj : ∀ a b, k a = k b → a = b) (hlen : ∀ a, (k a).length = a.length) (i j : Nat) (hij : i ≠ j) (hp : PE X e (tLockE (tLc (iKeys (tVar i)) (gName j) (tB (tDGet (tVar i) (tVar j))) (tCB (rLenSeq X.K) (tCons (tVar j) tNil)) [j]))) :
    WE g X e (fun st Q => ∃ (gs : List (List Int)) (f : List Int → Bool), st[i]? = some (.val (.dT (gs.map fun x => (k x, .bl (f x))))) ∧ gs.length ≤ 1000 ∧ j < st.length ∧ Q true (.lst ((gs.filter f).map fun x => D.int (x.length : Int)))) := by
  refine ⟨_, hp, fun Av B gh H0 o σ st H Q Qd hg F R hw hk => ?_⟩
  obtain ⟨gs, f, hi, hgl, hj, hw⟩ := hw
  obtain ⟨v, e1, r1⟩ := R.val i _ hi
  cases r1 with
  | dT nd hd rt =>
    rename_i d kvs
    have ek := drt_bools rt
    subst ek
    refine ⟨d, _, hd, trivial, fun od => ?_⟩
    have vi : σ[i]? = some (some (V.ref d)) := e1
    refine ⟨_, vi, d, od, rfl, .inr ⟨_, upd_same, ?_⟩⟩
    intro D hD
    have hDd : D ≠ d := fun z => by rw [z, upd_same] at hD; cases hD
    have hDH : H D = none := by rwa [upd_ne hDd] at hD
    let u : HO := .dT (gs.map fun x => (k x, V.bl (f x)))
    let acc := fun (n : Nat) => ((gs.take n).filter f).map fun x => V.int (x.length : Int)
    let Hc := fun (n : Nat) => upd (upd H d (.frz od u)) D (.lst (acc n))
    have hcd : ∀ n, Hc n d = some (.frz od u) := fun n => by
      show upd (upd H d (.frz od u)) D (.lst (acc n)) d = _
      rw [upd_ne (Ne.symm hDd), upd_same]
    have accl : ∀ n, (acc n).length ≤ 1000 := fun n => by
      show (((gs.take n).filter f).map fun x => V.int (x.length : Int)).length ≤ 1000
      rw [List.length_map]
      have a := List.length_filter_le f (gs.take n)
      rw [List.length_take] at a
      omega
    refine ⟨fun n m H' => n ≤ gs.length ∧ m = gs.length - n ∧ H' = Hc n, ⟨gs.length, Nat.zero_le _, rfl, rfl⟩, fun n m H' hW => ?_⟩
    obtain ⟨hn, rfl, rfl⟩ := hW
    by_cases hl : n < gs.length
    · refine .inr ⟨⟨hcd n, by rw [List.length_map]; exact hl⟩, fun H' => H' = Hc (n + 1), fun H' h => ⟨_, by omega, hl, rfl, h⟩, fun x H' y => ?_⟩
      obtain ⟨rfl, kk, vv, q, hkv, rfl, hq⟩ := y
      rw [List.getElem?_map] at hkv
      have ex : gs[n]? = some gs[n] := List.getElem?_eq_getElem hl
      rw [ex] at hkv
      cases hkv
      have mx : gs[n] ∈ gs := List.getElem_mem hl
      have lj : j < σ.length := by rw [R.len]; exact hj
      have s1 : ((wipe σ [j]).set j (some (V.ref q)))[i]? = some (some (V.ref d)) := by
        rw [List.getElem?_set_ne (Ne.symm hij)]
        show (σ.set j none)[i]? = _
        rw [List.getElem?_set_ne (Ne.symm hij)]; exact vi
      have s2 : ((wipe σ [j]).set j (some (V.ref q)))[j]? = some (some (V.ref q)) := by
        rw [List.getElem?_set_self (by show j < (σ.set j none).length; rw [List.length_set]; exact lj)]
      refine ⟨by
        show ((σ.set j none).set j (some (V.ref q))).set j none = σ.set j none
        rw [List.set_set, List.set_set], _, s1, _, s2, d, V.bl (f gs[n]), rfl, .inr ⟨_, k gs[n], q, .inr ⟨od, hcd n⟩, rfl, hq, (valV_map1 (w := fun x => V.bl (f x)) inj mx).symm⟩, f gs[n], rfl, ?_⟩
      have tk : gs.take (n + 1) = gs.take n ++ [gs[n]] := by rw [List.take_add_one, ex]; rfl
      cases z : f gs[n] with
      | true =>
        show if true = true then _ else _
        rw [if_pos rfl]
        refine ⟨_, s2, q, (k gs[n]).map L2.kV, rfl, .inr (.inl (.inl hq)), acc n, upd_same, small_line (by have := accl n; omega), ?_⟩
        show upd (upd (upd H d (.frz od u)) D (.lst (acc n))) D _ = upd (upd H d (.frz od u)) D (.lst (acc (n + 1)))
        have ea : acc (n + 1) = acc n ++ [V.int (gs[n].length : Int)] := by
          show ((gs.take (n + 1)).filter f).map _ = _
          rw [tk, List.filter_append, List.map_append, List.filter_cons_of_pos (by exact z)]; rfl
        rw [ea, List.length_map, hlen]
        funext a
        by_cases h : a = D
        · subst h; rw [upd_same, upd_same]
        · rw [upd_ne h, upd_ne h, upd_ne h]
      | false =>
        show if false = true then _ else _
        rw [if_neg (by simp)]
        have ea : acc (n + 1) = acc n := by
          show ((gs.take (n + 1)).filter f).map _ = _
          rw [tk, List.filter_append, List.map_append, List.filter_cons_of_neg (by simp [z])]; simp [acc]
        show Hc n = Hc (n + 1)
        show upd (upd H d (.frz od u)) D (.lst (acc n)) = upd (upd H d (.frz od u)) D (.lst (acc (n + 1)))
        rw [ea]
    · have e : n = gs.length := by omega
      subst e
      refine .inl ⟨⟨hcd _, by rw [List.length_map]; exact Nat.le_refl _⟩, hcd _, ?_⟩
      have eH : upd (Hc gs.length) d u = upd H D (.lst (acc gs.length)) := by
        funext a
        show upd (upd (upd H d (.frz od u)) D (.lst (acc gs.length))) d u a = _
        by_cases h : a = d
        · subst h; rw [upd_same, upd_ne (Ne.symm hDd)]; exact hd.symm
        · rw [upd_ne h]
          by_cases h2 : a = D
          · subst h2; rw [upd_same, upd_same]
          · rw [upd_ne h2, upd_ne h, upd_ne h2]
      have eA : acc gs.length = ((gs.filter f).map fun x => (x.length : Int)).map V.int := by
        show ((gs.take gs.length).filter f).map _ = _
        rw [List.take_length, List.map_map]; rfl
      show Q (.ref D) (upd (Hc gs.length) d u)
      rw [eH, eA]
      obtain ⟨kp, r⟩ := (R.fit F).lst (drs_ints ((gs.filter f).map fun x => (x.length : Int))) hDH
      refine hk true _ _ _ kp r ?_
      rw [List.map_map]
      exact hw
/-! ### abs(o) by the class's own __abs__ -/
def rAbsO (C : Addr) (sp : Sp) (E : XK) : List V → Hp → VK → Prop := fun xs H Q => ∃ a dx fs, xs = [.ref a] ∧ H a = some (.ins C dx fs) ∧ sp [.ref a] H Q E
section
variable {X : Cx} {CX : CXT} {n : Nat} {C f : Addr} {fd : FuncData} {ps : List Str} {sp : Sp} {E : XK}
theorem abs_O (F : FnOk X.prog X.w X.K X.mg X.base CX n f fd ps sp) (hs : PySem.W.findIn X.K (.ref C) "__abs__" = some (some (.ref f))) (hf : PySem.W.isFn X.K (.ref f) = true) (hb : Binds X.K fd ps [])
    (hx : Passes CX X E) (hr : Room (n + 1) X.A) : CallR X (.builtin "abs") (rAbsO C sp E) := by
  intro pins s σ H xs us Q I r d
  obtain ⟨a, dx, fs, rfl, ha, hsp⟩ := d
  obtain ⟨u, rfl, ru⟩ := vals1 r
  cases ru
  obtain ⟨mA, J, _⟩ := ins_get I.hok ha
  obtain ⟨od, J, _⟩ := J.look
  have hl := F.len _ _ _ _ hsp
  have e0 : Env0 X.prog X.w X.K X.mg X.base X.A.in1 X.stack s H := by
    have e := I.env0
    exact ⟨e.frames, e.mod, e.bs, e.bsz, e.funs, e.frf, e.hok, e.bare⟩
  refine Calls.call_function_entry kind_abs plain_abs entry_abs (args_abs _) ?_
  unfold Builtin.«abs»
  refine wpAny_bind (m := PySem.oneArg "abs" _) (wpAny_pure ?_)
  refine wpAny_bind (m := callSpecial? (.ref a) (Str.ofString "__abs__")) (PySem.W.special_fn I.kIn J hs (beq_iff_eq.mp hf) ?_)
  refine wpAny_call (codeAny_mono (F.run X.A.in1 X.stack s H ⟨[.ref a], []⟩ [.ref a] [.ref a] _ E hr.in1 e0 (by
    have := hb s [.ref a] I.kIn (by simpa using hl)
    simpa using this) (.cons rfl .nil) hsp) fun r s' hq => ?_)
  cases r with
  | error e => exact hx pins σ H s e s' I hq
  | ok fl =>
    cases fl with
    | ret w => exact wpAny_pure ⟨_, rfl, I.after hq⟩
    | next => exact False.elim hq
    | brk => exact False.elim hq
    | cont => exact False.elim hq
def mAbsO (C : Addr) (SP : List D → RQ → Prop) : SemC := fun ds Q => ∃ fs, ds = [.obj C fs] ∧ SP ds Q
theorem sc_absO {g : Gd} {SP : List D → RQ → Prop} : SC g (rAbsO C (spOf g 1 SP) E0) (mAbsO C SP) := by
  rintro Avs Av H ds vs Q Qd F r ⟨fs, rfl, hm⟩ hk
  obtain ⟨v, rfl, y⟩ := r.one
  have z := y.dr (by rfl)
  cases id z with
  | obj n1 e1 q1 => exact ⟨_, _, _, rfl, e1, rfl, Avs, _, _, F.gg, ⟨F.t1, F.tr⟩, .cons z .nil, hm, hk⟩
end
/-- o.m() -/
theorem we_meth0 {g : Gd} {X : Cx} {e o' : Expr} {w : WP} {n : Nat} {SP : List D → RQ → Prop} {m : Str} {C : Addr} (ho : WE g X o' w) (hc : ∀ ta, PE X o' ta → PE X e (tMeth C m (spOf g n SP) [] E0 ta tNil)) :
    WE g X e (fun st Q => w st fun _ s => ∃ fs, s = .obj C fs ∧ fs.lookup m = none ∧ 1 = n ∧ SP [s] Q) := by
  obtain ⟨ta, pa, qa⟩ := ho
  refine ⟨_, hc ta pa, fun Av B gh H0 o σ st H Q Qd hg F R hw hk => ?_⟩
  refine qa Av B gh H0 o σ st H _ _ hg F R hw fun fr s v H1 k1 r1 hd => ?_
  obtain ⟨fs, rfl, l, hn, hd⟩ := hd
  have z := r1.dr
  cases id z with
  | obj na ea rf =>
    refine ⟨_, _, _, rfl, ea, (rf.look (f := m)).2 l, ?_⟩
    have R1 := R.mono F k1
    refine ⟨hn, Avo Av B o st, [_], Qd, k1.2, R1.frok F, .cons z .nil, hd, fun fr d v H' k r hq => ?_⟩
    exact hk fr d v H' (k1.trans k) (r.back R.kp.2 k1) hq
end DW
namespace HL
/-! ### one person more for one job (for k57) -/
/-- rs' is rs with p put into the job J -/
structure Put (rs rs' : List (List Int)) (J : List Int) (p : Int) : Prop where
  eq : ∀ P, short rs' P = short rs P - (if p ∈ P ∧ meet P J = false then 1 else 0)
theorem Put.off {rs rs' : List (List Int)} {J : List Int} {p : Int} (h : Put rs rs' J p) {P : List Int} (n : p ∉ P) : short rs' P = short rs P := by
  rw [h.eq, if_neg (fun z => n z.1)]; omega
theorem Put.le {rs rs' : List (List Int)} {J : List Int} {p : Int} (h : Put rs rs' J p) (P : List Int) : short rs P - 1 ≤ short rs' P ∧ short rs' P ≤ short rs P := by
  rw [h.eq]
  split <;> omega
theorem countP_set {α : Type} (f : α → Bool) : ∀ (l : List α) (k : Nat) (x y : α), l[k]? = some x → (l.set k y).countP f + (if f x then 1 else 0) = l.countP f + (if f y then 1 else 0)
  | [], _, _, _, h => by simp at h
  | a :: l, 0, x, y, h => by
    simp only [List.getElem?_cons_zero, Option.some.injEq] at h
    subst h
    rw [List.set_cons_zero, List.countP_cons, List.countP_cons]
    split <;> split <;> omega
  | a :: l, k + 1, x, y, h => by
    rw [List.getElem?_cons_succ] at h
    have ih := countP_set f l k x y h
    rw [List.set_cons_succ, List.countP_cons, List.countP_cons]
    split <;> omega
theorem put_of {rs : List (List Int)} {k : Nat} {J J' : List Int} {p : Int} (h : rs[k]? = some J) (hJ : ∀ x, x ∈ J' ↔ x ∈ J ∨ x = p) : Put rs (rs.set k J') J p := ⟨fun P => by
  have c := countP_set (meet P) rs k J J' h
  have m : meet P J' = (meet P J || P.contains p) := by
    rw [Bool.eq_iff_iff, Bool.or_eq_true, meet_iff, meet_iff]
    constructor
    · rintro ⟨x, a, b⟩
      rcases (hJ x).mp b with z | rfl
      · exact .inl ⟨x, a, z⟩
      · exact .inr (by simpa using a)
    · rintro (⟨x, a, b⟩ | z)
      · exact ⟨x, a, (hJ x).mpr (.inl b)⟩
      · exact ⟨p, by simpa using z, (hJ p).mpr (.inr rfl)⟩
  unfold short
  rw [m] at c
  by_cases a : p ∈ P
  · by_cases b : meet P J = true
    · rw [if_neg (by simp [b])]
      rw [b] at c
      simp at c
      omega
    · have b : meet P J = false := by simpa using b
      rw [if_pos ⟨a, b⟩]
      rw [b] at c
      simp [a] at c
      omega
  · rw [if_neg (fun z => a z.1)]
    simp [a] at c
    omega⟩
theorem not_can {rs : List (List Int)} {G : List Int} (n : G.Nodup) (h : can rs G = false) : ∃ P, P.Sublist G ∧ 1 ≤ short rs P := by
  refine Classical.byContradiction fun z => ?_
  have : can rs G = true := short_can rs G n fun Q hQ => by
    refine Classical.byContradiction fun y => z ⟨Q, hQ, by omega⟩
  rw [h] at this; cases this
theorem short_drop (rs : List (List Int)) (p : Int) {Q : List Int} (n : Q.Nodup) : short rs Q ≤ short rs (Q.filter fun x => x != p) + 1 := by
  unfold short
  have h1 : rs.countP (meet (Q.filter fun x => x != p)) ≤ rs.countP (meet Q) := countP_mono' (fun r m => meet_mono (fun x hx => (List.mem_filter.mp hx).1) m) rs
  have h2 := filter_not_len (fun x => x != p) Q
  have h3 : (Q.filter fun x => !(x != p)).length ≤ 1 := by
    have e : (Q.filter fun x => !(x != p)) = Q.filter fun x => x == p := List.filter_congr fun x _ => by simp [bne]
    rw [e]
    by_cases z : p ∈ Q
    · rw [← List.countP_eq_length_filter, ← List.count_eq_countP]
      exact List.nodup_iff_count.mp n p
    · have : (Q.filter fun x => x == p) = [] := List.filter_eq_nil_iff.mpr fun x hx e => z (by rw [← beq_iff_eq.mp e]; exact hx)
      rw [this]; simp
  omega
theorem one_of {O : List Int} {p : Int} (n : O.Nodup) (hp : p ∈ O) : (O.filter fun x => x == p).length = 1 := by
  rw [← List.countP_eq_length_filter, ← List.count_eq_countP]
  have a := List.nodup_iff_count.mp n p
  have b := List.count_pos_iff.mpr hp
  omega
theorem put_iff {rs rs' : List (List Int)} {J O W : List Int} {p M N : Int} (h : Put rs rs' J p) (nW : W.Nodup) (hO : O = W.filter fun x => !J.contains x) (hp : p ∈ O) (hM : Mx rs O M) (hN : Mx rs (O.filter fun x => x != p) N) :
    (∃ G, G.Sublist W ∧ can rs' G = true ∧ can rs G = false) ↔ M = N + 1 := by
  have nO : O.Nodup := by rw [hO]; exact nW.sublist List.filter_sublist
  have mO : ∀ x, x ∈ O ↔ x ∈ W ∧ x ∉ J := fun x => by rw [hO, List.mem_filter]; simp
  have offJ : ∀ Q : List Int, (∀ x ∈ Q, x ∈ O) → meet Q J = false := fun Q hQ => by
    cases z : meet Q J with
    | false => rfl
    | true =>
      obtain ⟨x, a, b⟩ := meet_iff.mp z
      exact absurd b ((mO x).mp (hQ x a)).2
  have up : M ≤ N + 1 := by
    obtain ⟨Q, q1, q2⟩ := hM.at_
    have a := short_drop rs p (nO.sublist q1)
    have b := hN.le (Q.filter fun x => x != p) (q1.filter _)
    omega
  constructor
  · rintro ⟨G, hG, c1, c2⟩
    have nG := nW.sublist hG
    obtain ⟨P, hP, hs⟩ := not_can nG c2
    have z := ((can_iff nG).mp c1).le P hP
    have e := h.eq P
    have cnd : p ∈ P ∧ meet P J = false := by
      refine Classical.byContradiction fun y => ?_
      rw [if_neg y] at e
      omega
    rw [if_pos cnd] at e
    have PO : ∀ x ∈ P, x ∈ O := fun x hx => (mO x).mpr ⟨(hP.trans hG).subset hx, fun y => by
      have := meet_iff.mpr ⟨x, hx, y⟩
      rw [cnd.2] at this; cases this⟩
    obtain ⟨R, r1, r2⟩ := hN.at_
    have s := submod rs O (fun x => R.contains x) (fun x => P.contains x)
    have RO : R.Sublist O := r1.trans List.filter_sublist
    have eR : O.filter (fun x => R.contains x) = R := (sub_filter RO nO).symm
    have subW : P.Sublist W := hP.trans hG
    have eP : O.filter (fun x => P.contains x) = P := by
      have e1 := sub_filter subW nW
      rw [hO, List.filter_filter]
      conv => rhs; rw [e1]
      refine List.filter_congr fun x hx => ?_
      by_cases y : x ∈ P
      · have := ((mO x).mp (PO x y)).2
        simp [y, this]
      · simp [y]
    rw [eR, eP, r2] at s
    have a := hM.le (O.filter fun x => R.contains x || P.contains x) List.filter_sublist
    have b : short rs (O.filter fun x => R.contains x && P.contains x) ≤ 0 := by
      have np : p ∉ O.filter fun x => R.contains x && P.contains x := fun y => by
        have y2 := (List.mem_filter.mp y).2
        simp only [Bool.and_eq_true, List.contains_eq_mem, decide_eq_true_eq] at y2
        have y3 := (List.mem_filter.mp (r1.subset y2.1)).2
        simp at y3
      rw [← h.off np]
      refine ((can_iff nG).mp c1).le _ (List.Sublist.trans ?_ hP)
      have : (O.filter fun x => R.contains x && P.contains x) = (O.filter fun x => P.contains x).filter fun x => R.contains x := by rw [List.filter_filter]
      rw [this, eP]
      exact List.filter_sublist
    omega
  · intro e
    obtain ⟨B, hB, cB, lB⟩ := Mx.full_ge N.toNat (by have := hN.nonneg; omega) (nO.sublist List.filter_sublist) hN
    have BO : B.Sublist O := hB.trans List.filter_sublist
    have npB : p ∉ B := fun y => by
      have y3 := (List.mem_filter.mp (hB.subset y)).2
      simp at y3
    refine ⟨O.filter fun x => B.contains x || x == p, List.filter_sublist.trans (by rw [hO]; exact List.filter_sublist), ?_, ?_⟩
    · refine short_can rs' _ (nO.sublist List.filter_sublist) fun Q hQ => ?_
      have QO := hQ.trans List.filter_sublist
      have nQ := nO.sublist QO
      have QB : (Q.filter fun x => x != p).Sublist B := by
        have e1 : B = (O.filter fun x => B.contains x || x == p).filter fun x => x != p := by
          rw [List.filter_filter]
          conv => lhs; rw [sub_filter BO nO]
          refine List.filter_congr fun x hx => ?_
          by_cases y : x = p
          · subst y; simp [npB]
          · have y1 : (x != p) = true := by simpa using y
            have y2 : (x == p) = false := by simpa using y
            rw [y1, y2, Bool.true_and, Bool.or_false]
        rw [e1]
        exact hQ.filter _
      have c := ((can_iff (nO.sublist BO)).mp cB).le _ QB
      by_cases y : p ∈ Q
      · rw [h.eq Q, if_pos ⟨y, offJ Q fun x hx => QO.subset hx⟩]
        have := short_drop rs p nQ
        omega
      · rw [h.off y]
        have : (Q.filter fun x => x != p) = Q := List.filter_eq_self.mpr fun x hx => by
          simp only [bne_iff_ne, ne_eq]
          rintro rfl
          exact y hx
        rw [this] at c
        exact c
    · cases z : can rs (O.filter fun x => B.contains x || x == p) with
      | false => rfl
      | true =>
        have a := hM.full_le nO List.filter_sublist z
        have l1 : (O.filter fun x => B.contains x || x == p).length = B.length + 1 := by
          have f1 := filter_len (fun x => B.contains x) (fun x => x == p) O
          have f2 : (O.filter fun x => B.contains x && x == p) = [] := List.filter_eq_nil_iff.mpr fun x _ y => by
            simp only [Bool.and_eq_true, List.contains_eq_mem, decide_eq_true_eq, beq_iff_eq] at y
            rw [y.2] at y
            exact npB y.1
          have f3 := one_of nO hp
          have f4 : (O.filter fun x => B.contains x) = B := (sub_filter BO nO).symm
          rw [f2, f3, f4] at f1
          simpa using f1
        have l2 : (O.filter fun x => x != p).length + 1 = O.length := by
          have f1 := filter_not_len (fun x => x != p) O
          have f3 : (O.filter fun x => !(x != p)).length = 1 := by
            have e : (O.filter fun x => !(x != p)) = O.filter fun x => x == p := List.filter_congr fun x _ => by simp [bne]
            rw [e]
            exact one_of nO hp
          omega
        omega
/-! ### the first group that is gained is a clash -/
theorem find_first {α : Type} (p q : α → Bool) (L : List α) (h1 : ∀ x ∈ L, q x = true → p x = true) (h2 : ∀ pre x suf, L = pre ++ x :: suf → (∀ y ∈ pre, p y = false) → p x = true → q x = true) : L.find? p = L.find? q := by
  cases e : L.find? p with
  | none =>
    symm
    rw [List.find?_eq_none] at e ⊢
    intro x hx hq
    exact e x hx (h1 x hx hq)
  | some x =>
    symm
    obtain ⟨px, as, bs, hL, hn⟩ := List.find?_eq_some_iff_append.mp e
    have hn2 : ∀ y ∈ as, p y = false := fun y hy => by simpa using hn y hy
    refine List.find?_eq_some_iff_append.mpr ⟨h2 as x bs hL hn2 px, as, bs, hL, fun a ha => ?_⟩
    cases z : q a with
    | false => rfl
    | true =>
      have := h1 a (by rw [hL]; exact List.mem_append_left _ ha) z
      rw [hn2 a ha] at this
      cases this
theorem can_sub {rs : List (List Int)} {P Q : List Int} (n : P.Nodup) (h : Q.Sublist P) (c : can rs P = true) : can rs Q = true :=
  short_can rs Q (n.sublist h) fun R hR => ((can_iff n).mp c).le R (hR.trans h)
/-- no placeable group has a member more or less than .. : all groups of which one member is left out -/
def fewer (can : List Int → Bool) (G : List Int) : Bool := (List.range G.length).all fun k => can (G.eraseIdx k)
theorem gained_first {rs rs' : List (List Int)} {L : List (List Int)} (hN : ∀ G ∈ L, G.Nodup) (hE : ∀ pre G suf, L = pre ++ G :: suf → ∀ k, k < G.length → G.eraseIdx k ∈ pre) :
    L.find? (fun G => can rs' G && !can rs G) = L.find? fun G => (!can rs G && fewer (can rs) G) && can rs' G := by
  refine find_first _ _ L (fun G _ h => ?_) fun pre G suf hL hp h => ?_
  · simp only [Bool.and_eq_true] at h ⊢
    exact ⟨h.2, h.1.1⟩
  · simp only [Bool.and_eq_true] at h ⊢
    have nG := hN G (by rw [hL]; simp)
    refine ⟨⟨h.2, ?_⟩, h.1⟩
    unfold fewer
    rw [List.all_eq_true]
    intro k hk
    have hk := List.mem_range.mp hk
    have a := hp _ (hE pre G suf hL k hk)
    have b := can_sub nG (List.eraseIdx_sublist G k) h.1
    rw [b] at a
    simpa using a
end HL
namespace DW
open PySem PySem.Spec PyProof.Rows L2
/-! ### +, -, | .. of two instances of a class of one's own; o[i]; v in o -/
theorem back_rel {v : V} {u : Value} {P : Value → Shared → Prop} {s : Shared} (r : L2.RelV v u) (h : P u s) : PySem.W.CmpBack P u s := by
  cases v <;> simp only [L2.RelV] at r
  all_goals first
    | (subst r; exact h)
    | (obtain ⟨t, rfl⟩ := r; exact h)
def rOwn2 (C : Addr) (sp : Sp) (E : XK) : R2 := fun x y H Q => ∃ a b dx dy fs gs, x = .ref a ∧ y = .ref b ∧ H a = some (.ins C dx fs) ∧ H b = some (.ins C dy gs) ∧ sp [x, y] H Q E
section
variable {X : Cx} {CX : CXT} {n : Nat} {C f : Addr} {fd : FuncData} {ps : List Str} {sp : Sp} {E : XK}
theorem op_binO {op : Operator} (F : FnOk X.prog X.w X.K X.mg X.base CX n f fd ps sp) (hs : PySem.W.findIn X.K (.ref C) (PySem.dunder op.info.2) = some (some (.ref f))) (hf : PySem.W.isFn X.K (.ref f) = true) (hb : Binds X.K fd ps []) (hc : PySem.W.selfFirst X.K C = true)
    (hx : Passes CX X E) (hr : Room n X.A) : OpR X (binaryOp op) (rOwn2 C sp E) := by
  intro pins s σ H x y u v Q I rx ry d
  obtain ⟨a, b, dx, dy, fs, gs, rfl, rfl, ha, hb', hsp⟩ := d
  cases rx
  cases ry
  obtain ⟨mA, J, _⟩ := ins_get I.hok ha
  obtain ⟨mB, J', _⟩ := ins_get I.hok hb'
  obtain ⟨od, J, _⟩ := J.look
  obtain ⟨od', J', _⟩ := J'.look
  obtain ⟨m, hF⟩ := I.fr
  refine PySem.W.binop_K hF I.ok.mod.kin J J'.type hc hs hf ?_
  have e0 : Env0 X.prog X.w X.K X.mg X.base X.A X.stack s H := I.env0
  have hl := F.len _ _ _ _ hsp
  have r2 : Vals [V.ref a, V.ref b] [Value.ref a, Value.ref b] := .cons rfl (.cons rfl .nil)
  refine wpAny_call (codeAny_mono (F.run X.A X.stack s H ⟨[.ref a, .ref b], []⟩ [.ref a, .ref b] [.ref a, .ref b] _ E hr e0 (by
    have := hb s [.ref a, .ref b] I.kIn (by simpa using hl)
    simpa using this) r2 hsp) fun r s' hq => ?_)
  cases r with
  | error e => exact hx pins σ H s e s' I hq
  | ok fl =>
    cases fl with
    | ret w =>
      have z := I.after hq
      obtain ⟨z0, H', I', rz, q⟩ := id z
      exact back_rel rz z
    | next => exact False.elim hq
    | brk => exact False.elim hq
    | cont => exact False.elim hq
def mBinO (C : Addr) (SP : List D → RQ → Prop) : Sem2 := fun x y Q => ∃ fs gs, x = .obj C fs ∧ y = .obj C gs ∧ SP [x, y] Q
theorem s2_binO {g : Gd} {SP : List D → RQ → Prop} : S2 g (rOwn2 C (spOf g 2 SP) E0) (mBinO C SP) := by
  intro Avs Av H x y vx vy Q Qd F rx ry hm hk
  obtain ⟨fs, gs, rfl, rfl, hm⟩ := hm
  have r1 := rx.dr (by simp)
  have r2 := ry.dr (by simp)
  cases id r1 with
  | obj n1 e1 q1 =>
    cases id r2 with
    | obj n2 e2 q2 => exact ⟨_, _, _, _, _, _, rfl, rfl, e1, e2, rfl, Avs, _, _, F.gg, ⟨F.t1, F.tr⟩, .cons r1 (.cons r2 .nil), hm, hk⟩
/-- o[i] by the class's own __getitem__ -/
def rItemO (C : Addr) (sp : Sp) (E : XK) : R2 := fun x y H Q => ∃ a dx fs, x = .ref a ∧ H a = some (.ins C dx fs) ∧ sp [x, y] H Q E
theorem item_O (F : FnOk X.prog X.w X.K X.mg X.base CX n f fd ps sp) (hs : PySem.W.findIn X.K (.ref C) "__getitem__" = some (some (.ref f))) (hf : PySem.W.isFn X.K (.ref f) = true) (hb : Binds X.K fd ps []) (hq : PySem.W.noSeq X.K C = true)
    (hx : Passes CX X E) (hr : Room n X.A) : OpR X getItem (rItemO C sp E) := by
  intro pins s σ H x y u v Q I rx ry d
  obtain ⟨a, dx, fs, rfl, ha, hsp⟩ := d
  cases rx
  obtain ⟨mA, J, _⟩ := ins_get I.hok ha
  obtain ⟨od, J, _⟩ := J.look
  obtain ⟨m, hF⟩ := I.fr
  refine PySem.W.getItem_K hF I.ok.mod.kin J hq hs hf ?_
  have hl := F.len _ _ _ _ hsp
  refine wpAny_call (codeAny_mono (F.run X.A X.stack s H ⟨[.ref a, v], []⟩ [.ref a, v] [.ref a, y] _ E hr I.env0 (by
    have := hb s [.ref a, v] I.kIn (by simpa using hl)
    simpa using this) (.cons rfl (.cons ry .nil)) hsp) fun r s' hq => ?_)
  cases r with
  | error e => exact hx pins σ H s e s' I hq
  | ok fl =>
    cases fl with
    | ret w => exact I.after hq
    | next => exact False.elim hq
    | brk => exact False.elim hq
    | cont => exact False.elim hq
/-- len(o) by the class's own __len__ -/
def rLenO (C : Addr) (sp : Sp) (E : XK) : List V → Hp → VK → Prop := fun xs H Q => ∃ a dx fs, xs = [.ref a] ∧ H a = some (.ins C dx fs) ∧ sp [.ref a] H (fun v H' => ∃ k : Nat, v = .int (k : Int) ∧ k ≤ 1000000 ∧ Q v H') E
theorem len_O (F : FnOk X.prog X.w X.K X.mg X.base CX n f fd ps sp) (hs : PySem.W.findIn X.K (.ref C) "__len__" = some (some (.ref f))) (hf : PySem.W.isFn X.K (.ref f) = true) (hb : Binds X.K fd ps [])
    (hx : Passes CX X E) (hr : Room (n + 1) X.A) : CallR X (.builtin "len") (rLenO C sp E) := by
  intro pins s σ H xs us Q I r d
  obtain ⟨a, dx, fs, rfl, ha, hsp⟩ := d
  obtain ⟨u, rfl, ru⟩ := vals1 r
  cases ru
  obtain ⟨mA, J, _⟩ := ins_get I.hok ha
  obtain ⟨od, J, _⟩ := J.look
  obtain ⟨m, hF⟩ := I.fr
  refine PySem.W.len_K hF I.ok.mod.kin J hs hf ?_
  have hl := F.len _ _ _ _ hsp
  have e0 : Env0 X.prog X.w X.K X.mg X.base X.A.in1 X.stack s H := by
    have e := I.env0
    exact ⟨e.frames, e.mod, e.bs, e.bsz, e.funs, e.frf, e.hok, e.bare⟩
  refine wpAny_call (codeAny_mono (F.run X.A.in1 X.stack s H ⟨[.ref a], []⟩ [.ref a] [.ref a] _ E hr.in1 e0 (by
    have := hb s [.ref a] I.kIn (by simpa using hl)
    simpa using this) (.cons rfl .nil) hsp) fun r s' hq => ?_)
  cases r with
  | error e => exact hx pins σ H s e s' I hq
  | ok fl =>
    cases fl with
    | ret w =>
      obtain ⟨z, H', I', rz, k, ez, hk, q⟩ := I.after hq
      subst ez
      obtain ⟨t, rfl⟩ := rz
      exact ⟨⟨by omega, by omega⟩, .int (k : Int), H', I'.tok _, ⟨_, rfl⟩, q⟩
    | next => exact False.elim hq
    | brk => exact False.elim hq
    | cont => exact False.elim hq
end
end DW
namespace DW
open PySem PySem.Spec PyProof.Rows L2
/-! ### what may be raised -/
/-- the fields of an error of one's own: none, or those of its own dict -/
def XR (Av : Addr → Prop) (H : Hp) (d : Option Addr) (fs : List (Str × D)) : Prop := (d = none ∧ fs = []) ∨ ∃ (dd : Addr) (fv : List (Str × V)), d = some dd ∧ ¬ Av dd ∧ H dd = some (.xd fv) ∧ DRf Av H fv fs
abbrev XQ := Addr → List (Str × D) → Prop
theorem XR.mv {Av Av' : Addr → Prop} {H H' : Hp} {d : Option Addr} {fs : List (Str × D)} (m : Mv Av Av' H H') (h : XR Av H d fs) : XR Av' H' d fs := by
  rcases h with h | ⟨dd, fv, e, n, h, r⟩
  · exact .inl h
  · exact .inr ⟨dd, fv, e, (m.go _ _ n h).1, (m.go _ _ n h).2, DRf.mv m r⟩
/-- a promise of a def that may raise -/
def spX (g : Gd) (n : Nat) (SP : List D → RQ → XQ → Prop) : Sp := fun vs H Q E => vs.length = n ∧ ∃ (Av : Addr → Prop) (ds : List D) (Qd : RQ) (Xd : XQ), g.G H ∧ FrOk g Av H ∧ DRs Av H vs ds ∧ SP ds Qd Xd ∧
  (∀ fr d v H', Kp g H H' → Res Av H v fr d H' → Qd fr d → Q v H') ∧ (∀ C fs d H', Kp g H H' → XR Av H' d fs → Xd C fs → E (.ref C) d H')
abbrev WPX := Sx → RQ → XQ → Prop
/-- an expression that may raise; W: what is wished of what it raises -/
def WEX (g : Gd) (X : Cx) (W : WX) (e : Expr) (w : WPX) : Prop := ∃ t, PE X e t ∧ ∀ Av B gh H0 o σ st H Q Qd Xd, g.G H0 → FrOk g Av H0 → Rel g Av B gh H0 o σ st H → w st Qd Xd →
  (∀ fr d v H', Kp g H H' → Res (Avo Av B o st) H v fr d H' → Qd fr d → Q v H') → (∀ C fs d H', Kp g H H' → XR (Avo Av B o st) H' d fs → Xd C fs → W (.ref C) d σ H') → t σ H Q
section
variable {g : Gd} {X : Cx} {W : WX} {e : Expr} {es : List Expr} {wa : WPA} {w : WP} {n : Nat} {SP : List D → RQ → XQ → Prop}
theorem DW.WE.x (h : DW.WE g X e w) : WEX g X W e (fun st Q _ => w st Q) := by
  obtain ⟨t, p, q⟩ := h
  exact ⟨t, p, fun Av B gh H0 o σ st H Q Qd Xd hg F R hw hk _ => q Av B gh H0 o σ st H Q Qd hg F R hw hk⟩
theorem we_callX (ha : WA g X es wa) (hc : ∀ t, PA X es t → PE X e (tCallS (spX g n SP) (fun σ cls d H => W cls d σ H) t)) : WEX g X W e (fun st Q Xd => wa st fun ds => ds.length = n ∧ SP ds Q Xd) := by
  obtain ⟨t, p, q⟩ := ha
  refine ⟨_, hc t p, fun Av B gh H0 o σ st H Q Qd Xd hg F R hw hk hx => ?_⟩
  refine q Av B gh H0 o σ st H _ _ hg F R hw fun ds vs H1 k1 r1 hd => ?_
  refine ⟨by simpa [r1.length] using hd.1, Avo Av B o st, ds, Qd, Xd, k1.2, (R.mono F k1).frok F, by simpa using r1, hd.2, fun fr d v H' k r hq => ?_, fun C fs d H' k r h => hx C fs d H' (k1.trans k) r h⟩
  exact hk fr d v H' (k1.trans k) (r.back R.kp.2 k1) hq
/-- a def that does not raise, of one argument that may -/
theorem we_call1X {SP1 : List D → RQ → Prop} {e1 : Expr} {wx : WPX} (h : WEX g X W e1 wx) (hc : ∀ t, PE X e1 t → PE X e (tCall (spOf g 1 SP1) [] E0 (tCons t tNil))) : WEX g X W e (fun st Q Xd => wx st (fun _ d => SP1 [d] Q) Xd) := by
  obtain ⟨t, p, q⟩ := h
  refine ⟨_, hc t p, fun Av B gh H0 o σ st H Q Qd Xd hg F R hw hk hx => ?_⟩
  refine q Av B gh H0 o σ st H _ _ Xd hg F R hw (fun fr d v H1 k1 r1 hd => ?_) hx
  refine ⟨rfl, Avo Av B o st, [d], Qd, k1.2, (R.mono F k1).frok F, .cons r1.dr .nil, hd, fun fr2 d2 v2 H' k r hq => ?_⟩
  exact hk fr2 d2 v2 H' (k1.trans k) (r.back R.kp.2 k1) hq
/-! ### statements -/
abbrev WPSX := DE → XQ → Sx → Prop
def WSX (g : Gd) (X : Cx) (W : WX) (s : Stmt) (w : WPSX) : Prop := ∃ t, PS X s t ∧ ∀ Av B gh H0 o σ st H E De Xd, g.G H0 → FrOk g Av H0 → Rel g Av B gh H0 o σ st H → w De Xd st → EndsOk g Av B gh H0 E De →
  (∀ o σ st C fs d H', Rel g Av B gh H0 o σ st H' → XR (Avo Av B o st) H' d fs → Xd C fs → W (.ref C) d σ H') → t E σ H
def WSsX (g : Gd) (X : Cx) (W : WX) (ss : List Stmt) (w : WPSX) : Prop := ∃ t, PSs X ss t ∧ ∀ Av B gh H0 o σ st H E De Xd, g.G H0 → FrOk g Av H0 → Rel g Av B gh H0 o σ st H → w De Xd st → EndsOk g Av B gh H0 E De →
  (∀ o σ st C fs d H', Rel g Av B gh H0 o σ st H' → XR (Avo Av B o st) H' d fs → Xd C fs → W (.ref C) d σ H') → t E σ H
theorem WS.x {s : Stmt} {w : WPS} (h : WS g X s w) : WSX g X W s (fun De _ st => w De st) := by
  obtain ⟨t, p, q⟩ := h
  exact ⟨t, p, fun Av B gh H0 o σ st H E De Xd hg F R hw K _ => q Av B gh H0 o σ st H E De hg F R hw K⟩
theorem WSs.x {ss : List Stmt} {w : WPS} (h : WSs g X ss w) : WSsX g X W ss (fun De _ st => w De st) := by
  obtain ⟨t, p, q⟩ := h
  exact ⟨t, p, fun Av B gh H0 o σ st H E De Xd hg F R hw K _ => q Av B gh H0 o σ st H E De hg F R hw K⟩
/-- what does not raise is told in the calm context -/
theorem WSs.nox {ss : List Stmt} {w : WPS} (h : WSs g X.nox ss w) : WSs g X ss w := by
  obtain ⟨t, p, q⟩ := h
  exact ⟨t, p.nox, q⟩
theorem WT.nox {c : Expr} {w : WPT} (h : WT g X.nox c w) : WT g X c w := by
  obtain ⟨t, p, q⟩ := h
  exact ⟨t, p.nox, q⟩
variable {s : Stmt} {ss rest : List Stmt} {wx : WPX} {u u2 : WPSX} {pos : Pos}
theorem wssx_one (h : WSX g X W s u) : WSsX g X W [s] u := let ⟨t, p, q⟩ := h; ⟨t, pss_one p, q⟩
theorem wssx_cons (h : WSX g X W s u) (hr : WSsX g X W rest u2) : WSsX g X W (s :: rest) (fun De Xd st => u { De with nx := u2 De Xd } Xd st) := by
  obtain ⟨t, p, q⟩ := h
  obtain ⟨t2, p2, q2⟩ := hr
  refine ⟨_, pss_cons p p2, fun Av B gh H0 o σ st H E De Xd hg F R hw K hx => ?_⟩
  exact q Av B gh H0 o σ st H _ _ Xd hg F R hw ⟨fun o σ st H R h => q2 Av B gh H0 o σ st H E De Xd hg F R h K hx, K.rt, K.bk, K.ct⟩ hx
theorem wsx_if {c : Expr} {a b : List Stmt} {tc : WPT} {wa wb : WPSX} (hc : WT g X c tc) (ha : WSsX g X W a wa) (hb : WSsX g X W b wb) : WSX g X W (.If c a b pos) (fun De Xd st => tc st fun k => if k = true then wa De Xd st else wb De Xd st) := by
  obtain ⟨t, p, q⟩ := hc
  obtain ⟨t1, p1, q1⟩ := ha
  obtain ⟨t2, p2, q2⟩ := hb
  refine ⟨_, ps_if p p1 p2, fun Av B gh H0 o σ st H E De Xd hg F R hw K hx => ?_⟩
  refine q Av B gh H0 o σ st H _ _ hg F R hw fun c H1 k1 hd => ?_
  cases c with
  | true => exact q1 Av B gh H0 o σ st H1 E De Xd hg F (R.mono F k1) hd K hx
  | false => exact q2 Av B gh H0 o σ st H1 E De Xd hg F (R.mono F k1) hd K hx
/-- name = e, e may raise -/
theorem wsx_set (i : Nat) (h : WEX g X W e wx) (hp : ∀ te, PE X e te → PS X s (tAsg te (gName i))) : WSX g X W s (fun De Xd st => wx st (fun _ d => De.nx (st.set i (.val d))) Xd) := by
  obtain ⟨t, p, q⟩ := h
  refine ⟨_, hp t p, fun Av B gh H0 o σ st H E De Xd hg F R hw K hx => ?_⟩
  exact q Av B gh H0 o σ st H _ _ Xd hg F R hw (fun fr d v H1 k1 r1 hd => K.nx _ _ _ H1 ((R.mono F k1).setVal i r1.dr) hd) fun C fs d H' k r h => hx o σ st C fs d H' (R.mono F k) r h
/-- return e, e may raise -/
theorem wsx_ret (h : WEX g X W e wx) : WSX g X W (.Return (some e) pos) (fun De Xd st => wx st De.rt Xd) := by
  obtain ⟨t, p, q⟩ := h
  refine ⟨_, ps_ret p, fun Av B gh H0 o σ st H E De Xd hg F R hw K hx => ?_⟩
  exact q Av B gh H0 o σ st H _ _ Xd hg F R hw (fun fr d v H1 k1 r1 hd => K.rt fr d v H1 (R.kp.trans k1) (r1.out hg R) hd) fun C fs d H' k r h => hx o σ st C fs d H' (R.mono F k) r h
/-- raise C() -/
theorem wsx_raise0 {C : Addr} (hc : X.calm = true) (tk : Takes X W) (he : PMk X e (fun _ H Q => Q (.ref C) none H)) : WSX g X W (.Raise (some e) none pos) (fun _ Xd _ => Xd C []) := by
  refine ⟨_, ps_raise hc tk he, fun Av B gh H0 o σ st H E De Xd hg F R hw K hx => ?_⟩
  exact hx o σ st C [] none H R (.inl ⟨rfl, rfl⟩) hw
end
end DW
namespace DW
open PySem PySem.Spec PyProof.Rows L2
section
variable {g : Gd} {X : Cx} {W : WX} {e : Expr} {es : List Expr} {wa : WPA} {pos : Pos}
/-- C(v), an error of one field -/
def tMk1 (C : Addr) (fl : Str) (ta : TA) : L2.St → Hp → XK → Prop := fun σ H Q => ta σ H fun vs H1 => ∃ v, vs = [v] ∧ ∀ d, H1 d = none → Q (.ref C) (some d) (upd H1 d (.xd [(fl, v)]))
theorem wsx_raise1 {C : Addr} {fl : Str} (hc : X.calm = true) (tk : Takes X W) (ha : WA g X es wa) (he : ∀ ta, PA X es ta → PMk X e (tMk1 C fl ta)) : WSX g X W (.Raise (some e) none pos) (fun _ Xd st => wa st fun ds => ∃ v, ds = [v] ∧ Xd C [(fl, v)]) := by
  obtain ⟨t, p, q⟩ := ha
  refine ⟨_, ps_raise hc tk (he t p), fun Av B gh H0 o σ st H E De Xd hg F R hw K hx => ?_⟩
  refine q Av B gh H0 o σ st H _ _ hg F R hw fun ds vs H1 k1 r1 hd => ?_
  obtain ⟨v, rfl, hd⟩ := hd
  obtain ⟨v1, rfl, r⟩ : ∃ v1, vs = [v1] ∧ DR (Avo Av B o st) H1 v1 v := by
    cases r1 with
    | cons r r0 => cases r0; exact ⟨_, rfl, r⟩
  refine ⟨v1, rfl, fun d hn => ?_⟩
  have R1 := R.mono F k1
  have kp : Kp g H1 (upd H1 d (.xd [(fl, v1)])) := Kp.new k1.2 hn
  exact hx o σ st C _ (some d) _ (R1.mono F kp) (.inr ⟨d, _, rfl, fun z => R1.tracked F z hn, upd_same, .cons (r.mv (Mv.avo F kp)) .nil⟩) hd
end
section
variable {g : Gd} {P : Program} {w : World} {K : PySem.W.Frag} {mg : Str → Option Value} {base : Heap} {x qual : Str} {st : Stmt} {f : Addr} {fd : FuncData} {N ps : List Str} {k n : Nat} {SP : List D → RQ → XQ → Prop} {wb : WPSX}
theorem def_okX (F : Fun K x qual st f fd) (S : FnScope N ps (defScope st)) (hn : ps.length = n)
    (body : ∀ (cdv : Value) (A : Around) (fr : List Env) (s : Shared) (H : Hp) (E : XK), Room k (A.deeper (envOfC qual (defScope st) s.heap.objs.size f cdv)) →
      WSsX g (cxOf (L2.CX P w) P w K mg base N qual (defScope st) f cdv A fr s H E) (fun cls d _ H' => E cls d H') (defBody st) wb)
    (hs : ∀ ds Q Xd, ds.length = n → SP ds Q Xd → wb (endD Q) Xd (startS N ds)) : FnOk P w K mg base (L2.CX P w) (k + 1) f fd ps (spX g n SP) :=
  F.okX S (fun vs H Q E h => h.1.trans hn.symm) fun cdv A fr s H vs Q E hr h => by
    obtain ⟨hl, Av, ds, Qd, Xd, hg, FO, r, hd, hq, hx⟩ := h
    obtain ⟨t, p, q⟩ := body cdv A fr s H E hr
    refine ⟨t, p, q Av (fun _ => False) (fun _ _ => False) H (fun _ => 0) _ _ H _ (endD Qd) Xd hg FO (start_rel hg r) (hs ds Qd Xd (by rw [← r.length]; exact hl) hd)
      ⟨fun o σ st H' R h => hq false .non .non H' R.kp (.old .non) h, fun fr d v H' k r h => hq fr d v H' k r h, fun o σ st H' R h => h.elim, fun o σ st H' R h => h.elim⟩ fun o σ st C fs d H' R xr h => ?_⟩
    exact hx C fs d H' R.kp (xr.mv ⟨fun a u n e => ⟨fun z => n (.inl (.inl z)), e⟩⟩) h
end
end DW
namespace DW
open PySem PySem.Spec PyProof.Rows L2
/-! ### try: one statement (or a choice of such), except C as n: a suite that returns -/
section
variable {g : Gd} {X : Cx} {W : WX} {e : Expr} {s : Stmt} {pos : Pos} {wx : WPX}
def WS1 (g : Gd) (X : Cx) (W : WX) (ss : List Stmt) (w : WPSX) : Prop := ∃ t, PSs X ss t ∧ ∀ Av B gh H0 o σ st H E De Xd, g.G H0 → FrOk g Av H0 → Rel g Av B gh H0 o σ st H → w De Xd st → EndsOk g Av B gh H0 E De →
  (∀ C fs d H', Kp g H H' → XR (Avo Av B o st) H' d fs → Xd C fs → W (.ref C) d σ H') → t E σ H
theorem ws1_set (i : Nat) (h : WEX g X W e wx) (hp : ∀ te, PE X e te → PS X s (tAsg te (gName i))) : WS1 g X W [s] (fun De Xd st => wx st (fun _ d => De.nx (st.set i (.val d))) Xd) := by
  obtain ⟨t, p, q⟩ := h
  refine ⟨_, pss_one (hp t p), fun Av B gh H0 o σ st H E De Xd hg F R hw K hx => ?_⟩
  exact q Av B gh H0 o σ st H _ _ Xd hg F R hw (fun fr d v H1 k1 r1 hd => K.nx _ _ _ H1 ((R.mono F k1).setVal i r1.dr) hd) fun C fs d H' k r h => hx C fs d H' k r h
theorem ws1_ret (h : WEX g X W e wx) : WS1 g X W [.Return (some e) pos] (fun De Xd st => wx st De.rt Xd) := by
  obtain ⟨t, p, q⟩ := h
  refine ⟨_, pss_one (ps_ret p), fun Av B gh H0 o σ st H E De Xd hg F R hw K hx => ?_⟩
  exact q Av B gh H0 o σ st H _ _ Xd hg F R hw (fun fr d v H1 k1 r1 hd => K.rt fr d v H1 (R.kp.trans k1) (r1.out hg R) hd) fun C fs d H' k r h => hx C fs d H' k r h
theorem ws1_if {c : Expr} {a b : List Stmt} {tc : WPT} {wa wb : WPSX} (hc : WT g X c tc) (ha : WS1 g X W a wa) (hb : WS1 g X W b wb) : WS1 g X W [.If c a b pos] (fun De Xd st => tc st fun k => if k = true then wa De Xd st else wb De Xd st) := by
  obtain ⟨t, p, q⟩ := hc
  obtain ⟨t1, p1, q1⟩ := ha
  obtain ⟨t2, p2, q2⟩ := hb
  refine ⟨_, pss_one (ps_if p p1 p2), fun Av B gh H0 o σ st H E De Xd hg F R hw K hx => ?_⟩
  refine q Av B gh H0 o σ st H _ _ hg F R hw fun c H1 k1 hd => ?_
  cases c with
  | true => exact q1 Av B gh H0 o σ st H1 E De Xd hg F (R.mono F k1) hd K fun C fs d H' k r h => hx C fs d H' (k1.trans k) r h
  | false => exact q2 Av B gh H0 o σ st H1 E De Xd hg F (R.mono F k1) hd K fun C fs d H' k r h => hx C fs d H' (k1.trans k) r h
end
/-- the error's own dict stands -/
def gE (g : Gd) (d : Option Addr) (fv : List (Str × V)) : Gd where
  W := g.W
  T := fun a => g.T a ∨ d = some a
  G := fun H => g.G H ∧ ∀ dd, d = some dd → H dd = some (.xd fv)
  wt := fun a h => .inl (g.wt a h)
  st := fun H H' e h => ⟨g.st H H' (fun a ha => e a (.inl ha)) h.1, fun dd hd => (e dd (.inr hd)).trans (h.2 dd hd)⟩
  tr := fun H h a ha => by
    rcases ha with ha | ha
    · exact g.tr H h.1 a ha
    · exact nt_of (h.2 a ha) (fun _ z => nomatch z)
def rawF (fs : List (Str × D)) : List (Str × V) := fs.map fun p => (p.1, p.2.fv)
theorem drf_raw {Av : Addr → Prop} {H : Hp} : ∀ {fv : List (Str × V)} {fs : List (Str × D)}, DRf Av H fv fs → (fs.all fun p => p.2.flat) = true → fv = rawF fs
  | _, _, .nil, _ => rfl
  | _, _, .cons h r, f => by
    simp only [List.all_cons, Bool.and_eq_true] at f
    rw [(h.flat f.1).1, drf_raw r f.2]; rfl
section
variable {g : Gd} {X : Cx} {x nm : Str} {c : Value} {i : Nat} {body suite : List Stmt} {b0 : Stmt} {np pos pos' : Pos} {Wout : WX} {wb : WPSX} {Pc : Addr → List (Str × D) → Prop} {ws : Addr → Addr → Option Addr → List (Str × D) → WPS}
theorem ws_tryAs (Kx : PySem.W.Frag) (hK : X.K = Kx) (hs : X.stack = X.env :: X.outer) (hf : X.env.frame = some X.env.locals) (hN : X.N.Nodup) (hi : X.N[i]? = some nm) (hln : X.env.kindOf nm = some .local) (hc : Names X x c) (tk : Takes X Wout)
    (hb : ∀ (W : WX) (pn : List (Addr × Obj)) (xe : Value → Shared → Prop), Takes (X.tr pn xe) W → PassesOwn (model X.prog X.w) X.A X.env xe → WS1 g (X.tr pn xe) W body wb)
    (hsu : ∀ (a : Addr) (oe : Obj) (C : Addr) (d : Option Addr) (fs : List (Str × D)) (pn : List (Addr × Obj)), Pc C fs → (fs = [] ∨ d ≠ none) → Zc (.ref C) d oe → (∃ vs, oe.data = .fields vs) → WSs (gE g d (rawF fs)) (X.suite a ((a, oe) :: pn)) (b0 :: suite) (ws a C d fs)) :
    WS g X (.Try body [.ExceptHandler (some (.Name x np)) (some nm) (b0 :: suite) pos'] [] [] pos) (fun De st => wb De (fun C fs => PySem.W.exmOne Kx (.ref C) c = some true ∧ (fs.all fun p => p.2.flat) = true ∧ Pc C fs ∧
      ∀ a d, (fs = [] ∨ d ≠ none) → ws a C d fs ⟨fun _ => False, De.rt, fun _ => False, fun _ => False⟩ ((List.replicate st.length .un).set i (.val (.rf a)))) st) := by
  subst hK
  let tb : WX → TS := fun W D σ H => ∀ pn xe (h1 : Takes (X.tr pn xe) W) (h2 : PassesOwn (model X.prog X.w) X.A X.env xe), (hb W pn xe h1 h2).choose D σ H
  let ts : Addr → Value → Option Addr → TS := fun a cls d D σ H => ∃ C fs, ∃ (hP : Pc C fs) (hd : fs = [] ∨ d ≠ none), cls = .ref C ∧ ∀ oe pn (hZ : Zc (.ref C) d oe) (hF : ∃ vs, oe.data = .fields vs), (hsu a oe C d fs pn hP hd hZ hF).choose D σ H
  refine ⟨_, ps_try_as (tb := tb) (ts := ts) hs hf hN hi hln hc tk (fun W pn xe h1 h2 => ⟨fun pins s σ H D I h => (hb W pn xe h1 h2).choose_spec.1.run pins s σ H D I (h pn xe h1 h2)⟩)
    (fun a oe cls d pn hZ hF => ⟨fun pins s σ H D I h => ?_⟩), fun Av B gh H0 o σ st H E De hg F R hw K => ?_⟩
  · obtain ⟨C, fs, hP, hd, rfl, h⟩ := h
    exact (hsu a oe C d fs pn hP hd hZ hF).choose_spec.1.run pins s σ H D I (h oe pn hZ hF)
  · intro pn xe h1 h2
    refine (hb _ pn xe h1 h2).choose_spec.2 Av B gh H0 o σ st H E De _ hg F R hw K fun C fs d H' k xr hX => ?_
    obtain ⟨hex, hfl, hP, hX⟩ := hX
    have R1 := R.mono F k
    refine ⟨true, hex, fun _ a ha => ?_, fun z => nomatch z⟩
    have key : ∀ fv : List (Str × V), fv = rawF fs → (fs = [] ∨ d ≠ none) → (∀ dd, d = some dd → ¬ Avo Av B o st dd ∧ H' dd = some (.xd fv)) → ts a (.ref C) d { nx := fun σ' H' => E.nx (σ'.set i none) H', rt := E.rt, bk := fun σ' H' => E.bk (σ'.set i none) H', ct := fun σ' H' => E.ct (σ'.set i none) H' } (σ.set i (some (.ref a))) H' := by
      intro fv hfv hne hd
      subst hfv
      refine ⟨C, fs, hP, hne, rfl, fun oe pn2 hZ hF => ?_⟩
      have gg : (gE g d (rawF fs)).G H' := ⟨R1.kp.2, fun dd e => (hd dd e).2⟩
      refine (hsu a oe C d fs pn2 hP hne hZ hF).choose_spec.2 (fun b => Avo Av B o st b ∨ d = some b) (fun _ => False) (fun _ _ => False) H' (fun _ => 0) _ ((List.replicate st.length .un).set i (.val (.rf a))) H' _ ⟨fun _ => False, De.rt, fun _ => False, fun _ => False⟩ gg
        ⟨fun b hb => hb.imp (fun z => Avo.ta F z) id, fun b hb => ?_⟩ ?_ (hX a d hne) ⟨fun _ _ _ _ _ z => z.elim, fun fr dd v H'' k2 r hrt => ?_, fun _ _ _ _ _ z => z.elim, fun _ _ _ _ _ z => z.elim⟩
      · rcases hb with z | z
        · exact R1.tracked F z
        · exact nt_of (hd b z).2 (fun _ z => nomatch z)
      · have nun : ∀ (j : Nat) (s : Sl), ((List.replicate st.length Sl.un).set i (.val (.rf a)))[j]? = some s → (j = i ∧ s = .val (.rf a) ∧ i < st.length) ∨ s = .un := by
          intro j s h
          by_cases e : j = i
          · subst e
            by_cases hl : j < st.length
            · rw [List.getElem?_set_self (by simpa using hl)] at h
              exact .inl ⟨rfl, (Option.some.inj h).symm, hl⟩
            · rw [List.getElem?_eq_none (by simpa using hl)] at h; cases h
          · rw [List.getElem?_set_ne (Ne.symm e)] at h
            exact .inr (List.eq_of_mem_replicate (List.mem_of_getElem? h))
        refine ⟨by simp [R.len], Kp.refl gg, fun j dd h => ?_, fun j ds h => ?_, fun j k2 ds es h _ => ?_, fun b h => h.elim, fun v dd h => h.elim⟩
        · rcases nun j _ h with ⟨rfl, z, hl⟩ | z
          · cases z
            exact ⟨_, List.getElem?_set_self (by rw [R.len]; exact hl), .rf a⟩
          · cases z
        · rcases nun j _ h with ⟨_, z, _⟩ | z <;> cases z
        · rcases nun j _ h with ⟨_, z, _⟩ | z <;> cases z
      · have kg : Kp g H' H'' := ⟨k2.1, k2.2.1⟩
        refine K.rt fr dd v H'' (R1.kp.trans kg) ⟨r.dr.mv ⟨fun b u n e => ⟨fun z => n (.inl (.inl (.inl z))), e⟩⟩, fun efr => ?_⟩ hrt
        obtain ⟨p, vs, ds, e1, e2, e3, e4, e5⟩ := r.new efr
        exact ⟨p, vs, ds, e1, e2, R1.kp.free hg e3, e4, e5.mv ⟨fun b u n e => ⟨fun z => n (z.imp (fun z => .inl (.inl (.inl z))) id), e⟩⟩⟩
    rcases xr with ⟨rfl, rfl⟩ | ⟨dd, fv, rfl, n, e, r⟩
    · exact key [] rfl (.inl rfl) fun dd h => nomatch h
    · exact key fv (drf_raw r hfl) (.inr (by simp)) fun d2 h => by cases h; exact ⟨n, e⟩
end
end DW
/-! isinstance of a caught error that has a dict of its own -/
namespace DW
open PySem PySem.Spec PySem.Calls PyProof.Rows PySem.W
theorem find_data {K : Frag} {T : Addr} {y : Str} {u v : Value} {m : Option Obj} (q1 : (clsIn K T).isSome = true) (q2 : findIn K (.ref T) y = some (some u)) (q3 : specialIn K u "__get__" = some (some v)) (q4 : takesIn K u = some true) : findObj K T m y = some (.bind v u) := by
  obtain ⟨cc, qc⟩ := Option.isSome_iff_exists.mp q1
  simp [findObj, qc, q2, q3, q4]
section
variable {P : Program} {w : World} {A : Around} {Er : Value → Shared → Prop} {z : Shared} {K : Frag} {y T : Addr} {oy : Obj} {m : Option Obj}
theorem class_asked {Q : Option Value → Shared → Prop} (C : L2.ExcC K T) (X : K.In z.heap) (I : InstAt z.heap y oy T m) (q : Q (some (.ref T)) { z with toks := z.toks + 1 }) : wpAny (model P w) A (getAttr? (.ref y) "__class__") Q Er z := by
  have fnd : findObj K T m "__class__" = some (.bind (.builtin "getset_descriptor.__get__") (.builtin "object.__class__")) := find_data (by obtain ⟨cc, qc, _⟩ := any_some C.hd; rw [qc]; rfl) C.ha C.hn C.ht
  obtain ⟨hh, gg, dd, tt, oo⟩ := z
  have ty := I.type (M := model P w)
  have l1 := looks_findIn (M := model P w) X C.hg
  have l2 := looks_findIn (M := model P w) X C.hk
  have l3 := looks_find (M := model P w) X I fnd
  have isX : Looks (model P w) hh (isInstance (.ref y) (.type "BaseException")) true := ty.andThen (looks_subIn X C.hs)
  have n2 : (Value.builtin "BaseException.__getattribute__" == Value.builtin "object.__getattribute__") = false := by decide +kernel
  have n1 : (onTheHeap (Value.ref T) && Value.builtin "BaseException.__getattribute__" == Value.builtin "object.__getattribute__") = false := by
    rw [n2]; rfl
  have n0 : (false && onTheHeap (Value.builtin "BaseException.__getattribute__")) = false := rfl
  unfold getAttr? getAttrBy? getAttrBy
  refine wpAny_bind (wpAny_mkText (wpAny_bind (wpAny_attempt (wpAny_holding (wpAny_bind (ty.at (wpAny_bind (l1.at ?_))))))))
  show wpAny _ _ (if (onTheHeap (Value.ref T) && Value.builtin "BaseException.__getattribute__" == Value.builtin "object.__getattribute__") = true then _ else _) _ _ _
  rw [n1, if_neg Bool.false_ne_true]
  unfold getAttrByItsOwn hookBefore
  refine wpAny_bind ?_
  rw [if_pos (show onTheHeap (Value.ref T) = true from rfl)]
  refine l2.at (wpAny_bind (wpAny_attempt (wpAny_holding ?_)))
  unfold callGetattribute
  rw [n0, if_neg Bool.false_ne_true]
  unfold boundAndCalled
  rw [PySem.F.excAttr_ValueError.ga.bind (.ref y)]
  refine wpAny_bind (wpAny_pure ?_)
  show wpAny _ _ (call (.builtin "BaseException.__getattribute__") [.ref y, .str "__class__" tt]) _ _ _
  refine wpAny_call (codeAny_call_builtin PySem.F.excAttr_ValueError.ga.plain PySem.F.entry_bexc_ga ?_)
  refine @check_slot (model P w) _ _ ⟨hh, gg, dd, tt + 1, oo⟩ "BaseException.__getattribute__" "BaseException" "__getattribute__" (.ref y) [.str "__class__" tt] [] _ (by decide +kernel) (by decide +kernel) isX (PySem.F.args_bexc_ga (.ref y) (.str "__class__" tt)) ?_
  unfold Builtin.«object.__getattribute__»
  refine wpAny_bind (wpAny_of_eq (a := ((Value.ref y : Value), [Value.str "__class__" tt])) (by first | rfl | (simp only [slotArgs]; rfl)) ?_)
  refine wpAny_bind (wpAny_pure (wpAny_bind (ty.at (wpAny_bind (l3.at ?_)))))
  show wpAny _ _ (holding [Value.builtin "object.__class__"] (call (.builtin "getset_descriptor.__get__") [.builtin "object.__class__", .ref y, .ref T]) >>= ret) _ _ _
  refine wpAny_bind (wpAny_holding (wpAny_call (class_get (s := ⟨hh, gg, dd, tt + 1, oo⟩) (ox := oy) (od := m) X I C.hm ?_)))
  refine wpAny_pure ?_
  show wpAny _ _ (handedOut (.ref T)) _ _ _
  rw [handedOut_of (v := .ref T) rfl]
  first
    | exact wpAny_pure (wpAny_pure q)
    | exact wpAny_pure q
    | exact wpAny_pure (wpAny_bind (wpAny_pure (wpAny_pure q)))
theorem kit_err (C : L2.ExcC K T) : KitX K (.ref y) (.ref T) (fun h => InstAt h y oy T m) where
  ty := fun _ _ _ I => I.type
  it := fun _ _ X _ => by
    obtain ⟨cc, qc, _⟩ := any_some C.hd
    unfold clsIn at qc
    split at qc
    · rename_i k1 k2 k3 k4 there
      intro A1 Q1 E1 z1 kk q
      unfold isType loadHead
      exact wpAny_bind (wpAny_loadPart (kk _ _ (X _ _ there)) (wpAny_pure q))
    · cases qc
  ne := fun h tp dd its n sl X htp => by
    obtain ⟨cc, qc, _⟩ := any_some C.hd
    rw [Bool.eq_false_iff]
    intro q
    obtain rfl : T = tp := Value.ref.inj (beq_iff_eq.mp q)
    unfold clsIn at qc
    split at qc
    · rename_i k1 k2 k3 k4 there
      have two := (X _ _ there).symm.trans htp
      cases two
    · cases qc
  ca := fun X I q => class_asked C X I q
end
end DW
namespace DW
open PySem PySem.Spec PyProof.Rows L2
/-- isinstance(e, c), e the caught error at a, its dict at d -/
def rIsED (K : PySem.W.Frag) (T a : Addr) (d : Option Addr) : List V → Hp → VK → Prop := fun xs H Q => ∃ (c : V) (u : Value) (b : Bool), xs = [.ref a, c] ∧ ClsV c u ∧ PySem.W.kitOne K (.ref T) u = some b ∧ (∀ dd, d = some dd → ∃ fv, H dd = some (.xd fv)) ∧ Q (.bl b) H
theorem call_isED {X : Cx} {a T : Addr} {d : Option Addr} {oe : Obj} {pn : List (Addr × Obj)} (C : ExcC X.K T) (hz : Zc (.ref T) d oe) (hf : ∃ vs, oe.data = .fields vs) : CallR (X.suite a ((a, oe) :: pn)) (.builtin "isinstance") (rIsED X.K T a d) := by
  intro pins s σ H xs us Q I r h
  obtain ⟨c, u, b, rfl, hcv, e, hd, q⟩ := h
  obtain ⟨w1, w2, rfl, r1, r2⟩ := r.two
  cases r1
  obtain ⟨hget, _⟩ := I.pin (a, oe) (List.mem_append.mpr (.inl List.mem_cons_self))
  obtain ⟨vs, hv⟩ := hf
  obtain ⟨m, J⟩ : ∃ m, PySem.W.InstAt s.heap a oe T m := by
    cases d with
    | none =>
      refine ⟨none, hget, hz.1, by unfold PySem.W.notCls; rw [hv] <;> rfl, ?_⟩
      rw [hz.2]; trivial
    | some dd =>
      obtain ⟨fv, ho⟩ := hd dd rfl
      obtain ⟨mA, hns, hr⟩ := (I.hok dd _ ho : ObjOk X.prog X.w H s.heap dd (.xd fv))
      obtain ⟨od, ho2, _⟩ := lookIn_ns hns
      exact ⟨some od, hget, hz.1, by unfold PySem.W.notCls; rw [hv] <;> rfl, by rw [hz.2]; exact ho2⟩
  have eu : w2 = u := by
    cases hcv <;> cases r2 <;> rfl
  subst eu
  exact PySem.W.kia_one (kit_err C) I.kIn J e (fun z => nomatch z) fun tk => ⟨.bl b, H, I.kept (t' := tk) fun _ _ z => z, rfl, q⟩
def mIsED (K : PySem.W.Frag) (T a : Addr) : SemC := fun ds Q => ∃ c u b, ds = [.rf a, c] ∧ c.clv = some u ∧ PySem.W.kitOne K (.ref T) u = some b ∧ Q false (.bl b)
theorem sc_isED {g : Gd} {K : PySem.W.Frag} {T a : Addr} {d : Option Addr} {fv : List (Str × V)} : SC (gE g d fv) (rIsED K T a d) (mIsED K T a) := by
  intro Avs Av H ds vs Q Qd F r hm hk
  obtain ⟨c, u, b, rfl, hc, hk1, hq⟩ := hm
  obtain ⟨v1, v2, rfl, y1, y2⟩ := r.two
  have z1 := y1.dr (by simp)
  cases z1
  have z2 := y2.dr (by cases c <;> first | rfl | exact nomatch hc)
  exact ⟨v2, u, b, rfl, z2.cls hc, hk1, fun dd e => ⟨fv, F.gg.2 dd e⟩, hk _ _ _ H (Kp.refl F.gg) (.old (.bl b)) hq⟩
end DW
namespace DW
open PySem PySem.Spec PyProof.Rows L2
/-! ### the field of a caught error; a method, an operator, a class that may raise -/
def tBy1 (C : Addr) (a : Addr) (cls : Value) (d : Option Addr) (fl : Str) (te : TE) : TE := fun σ H Q => te σ H fun x H1 => x = .ref a ∧ cls = .ref C ∧ ∃ (dd : Addr) (v : V), d = some dd ∧ H1 dd = some (.xd [(fl, v)]) ∧ Q v H1
theorem DR.flat_of {Av : Addr → Prop} {H : Hp} {d : D} (f : d.flat = true) : DR Av H d.fv d := by
  cases d <;> simp only [D.flat, Bool.false_eq_true] at f
  · exact .non
  · exact .bl _
  · exact .int _
  · exact .str _
section
variable {g : Gd} {X : Cx} {W : WX} {e e1 : Expr} {es : List Expr} {w : WP} {wa : WPA} {n : Nat} {SP : List D → RQ → XQ → Prop} {pos : Pos}
theorem we_eFld {C a : Addr} {dd : Option Addr} {fl : Str} {x : D} (h : WE (gE g dd [(fl, x.fv)]) X e w) (hd : dd ≠ none) (hx : x.flat = true) (hc : ∀ te, PE X e te → PE X e1 (tBy1 C a (.ref C) dd fl te)) :
    WE (gE g dd [(fl, x.fv)]) X e1 (fun st Q => w st fun _ y => y = .rf a ∧ Q false x) := by
  obtain ⟨t, p, q⟩ := h
  refine ⟨_, hc t p, fun Av B gh H0 o σ st H Q Qd hg F R hw hk => ?_⟩
  refine q Av B gh H0 o σ st H _ _ hg F R hw fun fr d v H1 k1 r1 hq => ?_
  obtain ⟨rfl, hq⟩ := hq
  have z := r1.dr
  cases z
  cases dd with
  | none => exact absurd rfl hd
  | some dd => exact ⟨rfl, rfl, dd, x.fv, rfl, k1.2.2 dd rfl, hk false x _ H1 k1 (.old (DR.flat_of hx)) hq⟩
/-! ### o.m(..), m may raise -/
def tMethS (C : Addr) (m : Str) (sp : Sp) (E : L2.St → XK) (ta : TE) (t : TA) : TE := fun σ H Q => ta σ H fun x H1 => ∃ a dx fs, x = .ref a ∧ H1 a = some (.ins C dx fs) ∧ fs.lookup m = none ∧ t σ H1 fun vs H2 => sp (.ref a :: vs) H2 Q (E σ)
theorem pe_methX {CX : CXT} {k : Nat} {C f : Addr} {fd : FuncData} {ps : List Str} {sp : Sp} {E : L2.St → XK} {m : Str} {o e : Expr} {es : List Expr} {ta : TE} {t : TA} {apos : Pos} {pl : Sem Bool} (he : PE X o ta) (c : Cls X.K C) (hm : Meth X.K C m f) (F : FnOk X.prog X.w X.K X.mg X.base CX k f fd ps sp)
    (hr : Room k X.A) (hb : Binds X.K fd ps []) (hx : ∀ σ, PassesAt CX X σ (E σ)) (ha : PA X (e :: es) t)
    (hst : starEach (e :: es) X.env = (false, eval e X.env) :: starEach es X.env := by rfl)
    (hpl : (backTo pos (starEach es X.env)).any (·.1) = false := by rfl)
    (ht : eval (.Call (.Attribute o m apos) (e :: es) [] pos) X.env = ((eval o X.env) >>= fun ov => (standAt apos.atName) >>= fun _ =>
      (holding [ov] (getMethod ov m pl)) >>= fun p => callWith pos p.1 p.2 (backTo pos (starEach (e :: es) X.env)) (backToKw pos (keywordEach [] X.env))) := by rfl) :
    PE X (.Call (.Attribute o m apos) (e :: es) [] pos) (tMethS C m sp E ta t) := by
  constructor
  intro pins s σ H Q I h
  apply PySem.W.methodCall_KW (pl := pl) _ ht
  refine thn (he.run pins s σ H _ I h) ?_
  rintro u s1 ⟨x, H1, I1, rx, a, dx, fs, rfl, ea, l, q⟩
  cases rx
  apply getmeth_ok I1 ea c hm l
  apply PySem.W.callWith_K (first := [.ref a]) (h₀ := X.base) I1.ok.mod.kin hm.kp _ hst hpl
  refine thn (ha.run pos pins s1 σ H1 _ I1 q) ?_
  rintro us s2 ⟨vs, H2, I2, r, q2⟩
  exact ⟨I2.kIn, run_fnS (us := .ref a :: us) (vs := .ref a :: vs) F hr hb (hx σ) I2 (.cons rfl r) q2⟩
theorem we_methX {C : Addr} {m : Str} {o' : Expr} (ho : WE g X o' w) (ha : WA g X es wa) (hc : ∀ ta t, PE X o' ta → PA X es t → PE X e (tMethS C m (spX g n SP) (fun σ cls d H => W cls d σ H) ta t)) :
    WEX g X W e (fun st Q Xd => w st fun _ s => ∃ fs, s = .obj C fs ∧ fs.lookup m = none ∧ wa st fun ds => ds.length + 1 = n ∧ SP (s :: ds) Q Xd) := by
  obtain ⟨ta, pa, qa⟩ := ho
  obtain ⟨t, p, q⟩ := ha
  refine ⟨_, hc ta t pa p, fun Av B gh H0 o σ st H Q Qd Xd hg F R hw hk hx => ?_⟩
  refine qa Av B gh H0 o σ st H _ _ hg F R hw fun fr s v H1 k1 r1 hd => ?_
  obtain ⟨fs, rfl, l, hd⟩ := hd
  have z := r1.dr
  cases z with
  | obj na ea rf =>
    refine ⟨_, _, _, rfl, ea, (rf.look (f := m)).2 l, ?_⟩
    refine q Av B gh H0 o σ st H1 _ _ hg F (R.mono F k1) hd fun ds vs H2 k2 r2 hd2 => ?_
    have R2 := (R.mono F k1).mono F k2
    refine ⟨by simpa [r2.length] using hd2.1, Avo Av B o st, _ :: ds, Qd, Xd, k2.2, R2.frok F, .cons (r1.dr.mv (Mv.avo F k2)) (by simpa using r2), hd2.2, fun fr d v H' k r hq => ?_, fun C fs d H' k r h => hx C fs d H' ((k1.trans k2).trans k) r h⟩
    exact hk fr d v H' ((k1.trans k2).trans k) (r.back R.kp.2 (k1.trans k2)) hq
end
end DW
namespace L2
open PySem PySem.Spec PyProof.Rows
/-- X() of an error of one's own without a word -/
theorem pmk_own0 {X : Cx} {C : Addr} {bmB : List Value} {B newId initId : String} {x : Str} {p pos : Pos} (F : ExcBaseFacts B newId initId bmB) (q : PySem.W.excIn X.K C bmB newId = true) (gC : X.mg x = some (.ref C)) (kC : PySem.W.keepIn X.K (.ref C) = true) (r : Raises X (.ref C)) (hg : Gl X x)
    (hdb : (x == ("__debug__" : Str)) = false := by decide) : PMk X (.Call (.Name x p) [] [] pos) (fun _ H Q => Q (.ref C) none H) := by
  intro pins s σ H Q I h
  refine wpAny_Call_Name_kw (ld_glob I hg gC ?_ hdb)
  refine PySem.W.callWith_K0 I.kIn kC ?_
  rw [List.append_nil]
  obtain ⟨bm, N, nm, qn, bs, hdct, sn, sub, ab, col, dd, k0, k1, k2, k3, k5, mN, hC, hN, hni, T⟩ := exc_obj I.kIn q
  exact wpAny_call_exc_subT F T hC hN hni (fun h' e hm => mk_of I hm r h (I.hok.gone hm.new)) (Nat.zero_le _)
end L2
namespace DW
open PySem PySem.Spec PyProof.Rows L2 PySem.W
theorem int_fill_mul : fillsNumberSlot (.type "int") "mul" = pure true := by
  show (do let f ← typeLookup (.type "int") (PySem.dunder "mul"); let r ← typeLookup (.type "int") (PySem.dunderR "mul"); pure ((f.isSome && !isSeqSlot f) || (r.isSome && !isSeqSlot r))) = pure true
  rw [typeLookup_type, typeLookup_type, builtinLookup_eq_fast]; kernel_rfl
theorem int_rmul : typeLookup (.type "int") (PySem.dunderR "mul") = pure (some (.builtin "int.__rmul__")) := by rw [typeLookup_type, builtinLookup_eq_fast]; kernel_rfl
theorem int_mul_ref (a : Int) (t : Tok) (l C dx : Addr) : Meets (Builtin.«int.__mul__» ⟨[.int a t, .ref l], []⟩) (fun _ R s => s.heap.get? l = some (instObj C dx) ∧ R (.ok (.ret Value.notImplemented)) s) :=
  .of_wp fun prog w A R s h => by
    obtain ⟨hp, g, d, tk, os⟩ := s
    obtain ⟨hl, h⟩ := h
    wp_walk using wpAny_loadPart' hl
    exact ⟨_, rfl, h⟩
section
variable {prog : Program} {w : World} {A : Around} {E : Value → Shared → Prop} {s : Shared} {K : Frag} {x C L f : Addr} {h₀ : Heap} {m : Str → Option Value} {ox : Obj} {od : Option Obj}
/-- one's own *, an int on the right -/
theorem binop_KI {i : Int} {t : Tok} {Q : Value → Shared → Prop} (F : Fr h₀ L s.heap m) (X₀ : K.In h₀) (I : InstAt s.heap x ox C od) (hc : selfFirst K C = true)
    (hs : findIn K (.ref C) (PySem.dunder "mul") = some (some (.ref f))) (hf : isFn K (.ref f) = true) {g : Addr} (hr : findIn K (.ref C) (PySem.dunderR "mul") = some (some (.ref g))) (hk : subIn K (.type "int") (.ref C) = some false)
    (h : wpAny (model prog w) A (call (.ref f) [.ref x, .int i t]) (PySem.W.CmpBack Q) E s) : wpAny (model prog w) A (binaryOp .Mult (.ref x) (.int i t)) Q E s := by
  have X := X₀.keeps F.keep
  obtain ⟨cd, hcd, hm⟩ := any_some hc
  obtain ⟨rest, hm⟩ : ∃ rest, cd.mro = .ref C :: rest := by
    cases q : cd.mro with
    | nil => rw [q] at hm; cases hm
    | cons a r => rw [q] at hm; exact ⟨r, by rw [List.head?_cons] at hm; cases (beq_iff_eq.mp hm); rfl⟩
  unfold binaryOp
  refine wpAny_holding (wpAny_bind ?_)
  unfold binaryOp1
  refine wpAny_bind (I.type.here (wpAny_bind ?_))
  refine wpAny_pure ?_
  refine wpAny_bind ((fills_K X hcd hm hs).here ?_)
  rw [int_fill_mul]
  have hne : ((Value.ref C) == Value.type "int") = false := rfl
  simp only [hne, if_false, Bool.false_eq_true]
  refine wpAny_bind (wpAny_pure ?_)
  simp only [Bool.and_self, if_true]
  refine wpAny_bind ((looks_subIn X hk).here ?_)
  simp only [Bool.false_eq_true, if_false, Bool.not_false, Bool.and_self, if_true]
  unfold numberSlotInPython
  simp only []
  refine wpAny_bind ?_
  refine wpAny_bind ((looks_findIn X hs).here ?_)
  refine wpAny_bind (wpAny_pure ?_)
  refine wpAny_bind ((looks_findIn X hr).here ?_)
  refine wpAny_bind (wpAny_pure ?_)
  simp only [Bool.or_self, if_true]
  refine wpAny_pure ?_
  refine wpAny_bind (wpAny_pure ?_)
  simp only [Bool.not_false, if_true]
  refine wpAny_bind ?_
  rw [int_rmul]
  refine wpAny_pure ?_
  refine wpAny_bind (m := tryMethod (.ref x) _ (.int i t)) ?_
  unfold tryMethod
  refine wpAny_bind (special_fn X I hs (beq_iff_eq.mp hf) (wpAny_mono h (fun v s' hv => ?_) fun _ _ e => e))
  cases v <;> first | exact hv.elim | exact wpAny_pure (wpAny_pure (wpAny_pure hv))
/-- an int times one's own: by the reflected method -/
theorem binop_IK {i : Int} {t : Tok} {dx : Addr} {Q : Value → Shared → Prop} (F : Fr h₀ L s.heap m) (X₀ : K.In h₀) (I : InstAt s.heap x (instObj C dx) C od) (hc : selfFirst K C = true)
    (hs : findIn K (.ref C) (PySem.dunderR "mul") = some (some (.ref f))) (hf : isFn K (.ref f) = true) {g : Addr} (hm0 : findIn K (.ref C) (PySem.dunder "mul") = some (some (.ref g))) (hk : subIn K (.ref C) (.type "int") = some false)
    (h : wpAny (model prog w) A (call (.ref f) [.ref x, .int i t]) (PySem.W.CmpBack Q) E s) : wpAny (model prog w) A (binaryOp .Mult (.int i t) (.ref x)) Q E s := by
  have X := X₀.keeps F.keep
  obtain ⟨cd, hcd, hm⟩ := any_some hc
  obtain ⟨rest, hm⟩ : ∃ rest, cd.mro = .ref C :: rest := by
    cases q : cd.mro with
    | nil => rw [q] at hm; cases hm
    | cons a r => rw [q] at hm; exact ⟨r, by rw [List.head?_cons] at hm; cases (beq_iff_eq.mp hm); rfl⟩
  unfold binaryOp
  refine wpAny_holding (wpAny_bind ?_)
  unfold binaryOp1
  refine wpAny_bind (wpAny_pure (wpAny_bind (I.type.here ?_)))
  rw [int_fill_mul]
  refine wpAny_bind (wpAny_pure ?_)
  have hne : (Value.type "int" == (Value.ref C)) = false := rfl
  simp only [hne, if_false, Bool.false_eq_true]
  refine wpAny_bind ((fills_K X hcd hm hm0).here ?_)
  simp only [Bool.and_self, if_true]
  refine wpAny_bind ((looks_subIn X hk).here ?_)
  simp only [Bool.false_eq_true, if_false, Bool.not_false, Bool.and_self, if_true]
  unfold numberSlotInPython
  simp only []
  refine wpAny_bind (wpAny_pure ?_)
  simp only [Bool.false_eq_true, if_false]
  refine wpAny_bind (m := tryMethod (.int i t) _ (.ref x)) ?_
  refine wpAny_tryMethod_declines (T := "int") rfl PySem.F.slot_int_mul (call_meets PySem.F.slot_int_mul rfl PySem.F.entry_int_mul (PySem.F.args_int_mul_2 _ _) (int_mul_ref i t x C dx) ⟨I.at_, ⟨rfl, ?_⟩⟩)
  simp only []
  refine wpAny_bind (m := tryMethod (.ref x) _ (.int i t)) ?_
  unfold tryMethod
  refine wpAny_bind (special_fn X I hs (beq_iff_eq.mp hf) (wpAny_mono h (fun v s' hv => ?_) fun _ _ e => e))
  cases v <;> first | exact hv.elim | exact wpAny_pure (wpAny_bind (wpAny_rule (wpAny_pure (wpAny_pure hv))))
end
end DW
namespace L2
open PySem PySem.Spec PyProof.Rows
theorem tuple_mul_same (l : Addr) (items : Array Value) (n : Nat) (dd : Option Addr) (sl : Array (Option Value)) (x : Int) (u : Tok) (c0 : (decide (x < -(2 ^ 63)) || decide (x ≥ 2 ^ 63)) = false) (c1 : (items.isEmpty || x == 1) = true) :
    Meets (Builtin.«tuple.__mul__» ⟨[.ref l, .int x u], []⟩) (fun _ R s => s.heap.get? l = some { cls := .type "tuple", dict := dd, data := .seq items n, slots := sl } ∧ R (.ok (.ret (Value.ref l))) s) :=
  .of_wp fun prog w A R s h => by
    obtain ⟨hp, g, d, tk, os⟩ := s
    obtain ⟨hl, h⟩ := h
    have f1 := AutoSeq1.idx_int
    wp_walk using wpAny_loadPart' hl
    repeat (first
      | (refine wpAny_ite_false (decide_eq_false (by rw [c0]; exact Bool.false_ne_true)) ?_; wp_walk using wpAny_loadPart' hl)
      | (refine wpAny_ite_true (decide_eq_true (by rw [c1])) ?_; wp_walk using wpAny_loadPart' hl))
    exact ⟨_, rfl, h⟩
theorem tuple_mul_zero (l : Addr) (items : Array Value) (n : Nat) (dd : Option Addr) (sl : Array (Option Value)) (u : Tok) (c1 : items.isEmpty = false) :
    Meets (Builtin.«tuple.__mul__» ⟨[.ref l, .int 0 u], []⟩) (fun _ R s => s.heap.get? l = some { cls := .type "tuple", dict := dd, data := .seq items n, slots := sl } ∧
      R (.ok (.ret (Value.ref s.heap.objs.size))) { s with heap := s.heap.push { cls := Value.type "tuple", data := Data.seq #[] }, toks := s.toks }) :=
  .of_wp fun prog w A R s h => by
    obtain ⟨hp, g, d, tk, os⟩ := s
    obtain ⟨hl, h⟩ := h
    have f1 := AutoSeq1.idx_int
    wp_walk using wpAny_loadPart' hl
    repeat (first
      | (refine wpAny_ite_false (decide_eq_false (by rw [c1]; decide)) ?_; wp_walk using wpAny_loadPart' hl)
      | (refine wpAny_ite_false (decide_eq_false (by decide)) ?_; wp_walk using wpAny_loadPart' hl)
      | (refine wpAny_ite_true (decide_eq_true (by decide)) ?_; wp_walk using wpAny_loadPart' hl))
    exact ⟨_, rfl, h⟩
end L2
namespace L2
open PySem PySem.Spec PyProof.Rows
/-- tuple * int, for every count from 0 on -/
def rRepA (K : PySem.W.Frag) : R2 := fun x y H Q => ∃ l k xs, x = .ref l ∧ y = .int k ∧ SqT K H l xs ∧ 0 ≤ k ∧ k ≤ 1000 ∧ xs.length ≤ 1000 ∧ ((xs = [] ∨ k = 1) → Q (.ref l) H) ∧ (¬ (xs = [] ∨ k = 1) → ∀ p, H p = none → Q (.ref p) (upd H p (.tup (List.replicate k.toNat xs).flatten)))
section
variable {X : Cx}
theorem op_repA : OpR X (binaryOp .Mult) (rRepA X.K) := by
  intro pins s σ H x y v u Q I rx ry h
  obtain ⟨l, k, xs, rfl, rfl, hT, h1, h2, hz, qs, qn⟩ := h
  by_cases c : xs = [] ∨ k = 1
  · cases rx
    obtain ⟨t, rfl⟩ := ry
    obtain ⟨its, r, ⟨⟨cls, dd, data, sl⟩, ho, hc, n, hd⟩, hs⟩ := I.tuple hT
    simp only at hc hd
    subst hc hd
    have hle : its.length = xs.length := r.length.symm
    have c0 : (decide (k < -(2 ^ 63)) || decide (k ≥ 2 ^ 63)) = false := by
      rw [decide_eq_false (by omega), decide_eq_false (by omega)] <;> rfl
    have c1 : (its.toArray.isEmpty || k == 1) = true := by
      rcases c with c | c
      · rw [c] at hle
        rw [List.eq_nil_of_length_eq_zero hle]; rfl
      · rw [c]; simp
    refine wpAny_binaryOp_repeat_ref (T := "tuple") (U := "int") (by decide) ⟨_, ho, rfl⟩ (fun s' => typeIs_int s' k t) noFill_tuple_mul F.fills_int_mul F.slot_int_rmul repeat_tuple F.slot_int_index.lookup
      (call_meets F.slot_int_rmul (typeIs_int s k t) F.entry_int_rmul (F.args_int_rmul_2 _ _) (int_rmul_tuple k t l its.toArray n dd sl)
        ⟨ho, rfl, ⟨_, ho, rfl⟩, call_meets F.slot_tuple_mul ⟨_, ho, rfl⟩ F.entry_tuple_mul (F.args_tuple_mul_2 _ _) (tuple_mul_same l its.toArray n dd sl k t c0 c1) ⟨ho, ?_⟩⟩)
    exact ⟨.ref l, H, I, rfl, qs c⟩
  · have hne : xs ≠ [] := fun e => c (.inl e)
    by_cases k0 : k = 0
    · subst k0
      cases rx
      obtain ⟨t, rfl⟩ := ry
      obtain ⟨its, r, ⟨⟨cls, dd, data, sl⟩, ho, hc, n, hd⟩, hs⟩ := I.tuple hT
      simp only at hc hd
      subst hc hd
      have c1 : its.toArray.isEmpty = false := by
        cases its with
        | nil => exact absurd (List.eq_nil_of_length_eq_zero r.length) hne
        | cons a b => rfl
      refine wpAny_binaryOp_repeat_ref (T := "tuple") (U := "int") (by decide) ⟨_, ho, rfl⟩ (fun s' => typeIs_int s' 0 t) noFill_tuple_mul F.fills_int_mul F.slot_int_rmul repeat_tuple F.slot_int_index.lookup
        (call_meets F.slot_int_rmul (typeIs_int s 0 t) F.entry_int_rmul (F.args_int_rmul_2 _ _) (int_rmul_tuple 0 t l its.toArray n dd sl)
          ⟨ho, rfl, ⟨_, ho, rfl⟩, call_meets F.slot_tuple_mul ⟨_, ho, rfl⟩ F.entry_tuple_mul (F.args_tuple_mul_2 _ _) (tuple_mul_zero l its.toArray n dd sl t c1) ⟨ho, ?_⟩⟩)
      refine ⟨.ref s.heap.objs.size, _, I.laid (t' := s.toks) (o := .tup []) (fun b ob q => Heap.get?_push_of_some _ q) (Nat.le_refl _) ⟨Nat.zero_le _, _, .nil, IsTup.new _ _⟩, rfl, qn c _ (I.hok.fresh (Nat.le_refl _))⟩
    · exact op_repT pins s σ H _ _ v u Q I rx ry ⟨l, k, xs, rfl, rfl, hT, hne, by have : k ≠ 1 := fun e => c (.inr e); omega, h2, hz, qn c⟩
end
end L2
namespace DW
open PySem PySem.Spec PyProof.Rows L2
section
variable {g : Gd} {X : Cx}
/-- * of ints, of a list and an int, of a tuple and an int -/
def mMulB : Sem2
  | .int i, .int j, Q => CMul i j ∧ Q false (.int (i * j))
  | .lst a, .int k, Q => -(2 ^ 63) ≤ k ∧ k < 2 ^ 63 ∧ a.length * k.toNat ≤ sizeLine ∧ Q true (.lst (List.replicate k.toNat a).flatten)
  | .tup a, .int k, Q => 0 ≤ k ∧ k ≤ 1000 ∧ a.length ≤ 1000 ∧ Q false (.tup (List.replicate k.toNat a).flatten)
  | _, _, _ => False
def rMulB (K : PySem.W.Frag) : R2 := fun x y H Q => rMulA x y H Q ∨ rRepA K x y H Q
theorem op_mulB : OpR X (binaryOp .Mult) (rMulB X.K) := op_mulA.or op_repA
theorem s2_mulB : S2 g (rMulB X.K) mMulB := by
  intro Avs Av H x y vx vy Q Qd F rx ry hm hk
  cases x <;> cases y <;> simp only [mMulB] at hm
  case int.int i j => exact .inl (s2_mul Avs Av H _ _ vx vy Q Qd F rx ry hm hk)
  case lst.int a k => exact .inl (s2_mul Avs Av H _ _ vx vy Q Qd F rx ry hm hk)
  case tup.int a k =>
    obtain ⟨p, vs, rfl, e1, r1, rp⟩ := rx.tup
    cases ry.int
    have hl := r1.length
    have rr := r1.rep k.toNat
    refine .inr ⟨p, k, vs, rfl, rfl, .inl (.inl e1), hm.1, hm.2.1, by rw [hl]; exact hm.2.2.1, fun c => ?_, fun c u hu => ?_⟩
    · have e : (List.replicate k.toNat a).flatten = a := by
        rcases c with c | c
        · rw [c] at hl
          rw [List.eq_nil_of_length_eq_zero hl.symm]; simp
        · rw [c]; simp
      have q := hm.2.2.2
      rw [e] at q
      exact hk false _ _ H (Kp.refl F.gg) (.old rp) q
    · obtain ⟨kp, r⟩ := F.tup rr hu
      exact hk false _ _ _ kp r hm.2.2.2
end
end DW
namespace DW
open PySem PySem.Spec PyProof.Rows L2
/-! ### +, |, * of one's own, that may raise -/
section
variable {X : Cx} {CX : CXT} {n : Nat} {C f : Addr} {fd : FuncData} {ps : List Str} {sp : Sp} {E : L2.St → XK} {a b : Expr} {ta tb : TE} {pos : Pos}
theorem ends_S {pins : List (Addr × Obj)} {σ : L2.St} {H : Hp} {s : Shared} {Q : VK} {us : List Value} {vs : List V} (F : FnOk X.prog X.w X.K X.mg X.base CX n f fd ps sp) (hr : Room n X.A) (hb : Binds X.K fd ps []) (hx : PassesAt CX X σ (E σ))
    (I : Inv X pins σ H s) (r : Vals vs us) (h : sp vs H Q (E σ)) : wpAny (model X.prog X.w) X.A (call (.ref f) us) (PySem.W.CmpBack (EP X pins σ Q)) X.xe s := by
  refine wpAny_mono (run_fnS F hr hb hx I r h) (fun v s' z => ?_) fun _ _ e => e
  obtain ⟨z0, H', I', rz, q⟩ := id z
  exact back_rel rz z
def tBinS (C : Addr) (sp : Sp) (E : L2.St → XK) (ta tb : TE) : TE := fun σ H Q => ta σ H fun x H1 => tb σ H1 fun y H2 => ∃ a b dx dy fs gs, x = .ref a ∧ y = .ref b ∧ H2 a = some (.ins C dx fs) ∧ H2 b = some (.ins C dy gs) ∧ sp [x, y] H2 Q (E σ)
theorem pe_binS {op : Operator} (F : FnOk X.prog X.w X.K X.mg X.base CX n f fd ps sp) (hs : PySem.W.findIn X.K (.ref C) (PySem.dunder op.info.2) = some (some (.ref f))) (hf : PySem.W.isFn X.K (.ref f) = true) (hb : Binds X.K fd ps []) (hc : PySem.W.selfFirst X.K C = true)
    (hx : ∀ σ, PassesAt CX X σ (E σ)) (hr : Room n X.A) (ha : PE X a ta) (hb' : PE X b tb) : PE X (.BinOp a op b pos) (tBinS C sp E ta tb) := by
  refine ⟨fun pins s σ H Q I h => ?_⟩
  refine wpAny_BinOp (binT ha hb' I h fun v u s2 x y H2 I2 rx ry q => ?_)
  obtain ⟨p, q', dx, dy, fs, gs, rfl, rfl, e1, e2, hsp⟩ := q
  cases rx
  cases ry
  obtain ⟨mA, J, _⟩ := ins_get I2.hok e1
  obtain ⟨mB, J', _⟩ := ins_get I2.hok e2
  obtain ⟨od, J, _⟩ := J.look
  obtain ⟨od', J', _⟩ := J'.look
  obtain ⟨m, hF⟩ := I2.fr
  exact PySem.W.binop_K hF I2.ok.mod.kin J J'.type hc hs hf (ends_S (us := [.ref p, .ref q']) (vs := [.ref p, .ref q']) F hr hb (hx σ) I2 (.cons rfl (.cons rfl .nil)) hsp)
def tBinI (C : Addr) (sp : Sp) (E : L2.St → XK) (ta tb : TE) : TE := fun σ H Q => ta σ H fun x H1 => tb σ H1 fun y H2 => ∃ a dx fs i, x = .ref a ∧ y = .int i ∧ H2 a = some (.ins C dx fs) ∧ sp [x, y] H2 Q (E σ)
theorem pe_binI {gR : Addr} (F : FnOk X.prog X.w X.K X.mg X.base CX n f fd ps sp) (hs : PySem.W.findIn X.K (.ref C) (PySem.dunder "mul") = some (some (.ref f))) (hf : PySem.W.isFn X.K (.ref f) = true) (hb : Binds X.K fd ps []) (hc : PySem.W.selfFirst X.K C = true)
    (hR : PySem.W.findIn X.K (.ref C) (PySem.dunderR "mul") = some (some (.ref gR))) (hk : PySem.W.subIn X.K (.type "int") (.ref C) = some false)
    (hx : ∀ σ, PassesAt CX X σ (E σ)) (hr : Room n X.A) (ha : PE X a ta) (hb' : PE X b tb) : PE X (.BinOp a .Mult b pos) (tBinI C sp E ta tb) := by
  refine ⟨fun pins s σ H Q I h => ?_⟩
  refine wpAny_BinOp (binT ha hb' I h fun v u s2 x y H2 I2 rx ry q => ?_)
  obtain ⟨p, dx, fs, i, rfl, rfl, e1, hsp⟩ := q
  cases rx
  obtain ⟨t, rfl⟩ := ry
  obtain ⟨mA, J, _⟩ := ins_get I2.hok e1
  obtain ⟨od, J, _⟩ := J.look
  obtain ⟨m, hF⟩ := I2.fr
  exact binop_KI hF I2.ok.mod.kin J hc hs hf hR hk (ends_S (us := [.ref p, .int i t]) (vs := [.ref p, .int i]) F hr hb (hx σ) I2 (.cons rfl (.cons ⟨t, rfl⟩ .nil)) hsp)
def tBinR (C : Addr) (sp : Sp) (E : L2.St → XK) (ta tb : TE) : TE := fun σ H Q => ta σ H fun x H1 => tb σ H1 fun y H2 => ∃ a dx fs i, y = .ref a ∧ x = .int i ∧ H2 a = some (.ins C dx fs) ∧ sp [y, x] H2 Q (E σ)
theorem pe_binR {gM : Addr} (F : FnOk X.prog X.w X.K X.mg X.base CX n f fd ps sp) (hs : PySem.W.findIn X.K (.ref C) (PySem.dunderR "mul") = some (some (.ref f))) (hf : PySem.W.isFn X.K (.ref f) = true) (hb : Binds X.K fd ps []) (hc : PySem.W.selfFirst X.K C = true)
    (hM : PySem.W.findIn X.K (.ref C) (PySem.dunder "mul") = some (some (.ref gM))) (hk : PySem.W.subIn X.K (.ref C) (.type "int") = some false)
    (hx : ∀ σ, PassesAt CX X σ (E σ)) (hr : Room n X.A) (ha : PE X a ta) (hb' : PE X b tb) : PE X (.BinOp a .Mult b pos) (tBinR C sp E ta tb) := by
  refine ⟨fun pins s σ H Q I h => ?_⟩
  refine wpAny_BinOp (binT ha hb' I h fun v u s2 x y H2 I2 rx ry q => ?_)
  obtain ⟨p, dx, fs, i, rfl, rfl, e1, hsp⟩ := q
  cases ry
  obtain ⟨t, rfl⟩ := rx
  obtain ⟨mA, J, _⟩ := ins_get I2.hok e1
  obtain ⟨od, J, _⟩ := J.look
  obtain ⟨m, hF⟩ := I2.fr
  exact binop_IK hF I2.ok.mod.kin J hc hs hf hM hk (ends_S (us := [.ref p, .int i t]) (vs := [.ref p, .int i]) F hr hb (hx σ) I2 (.cons rfl (.cons ⟨t, rfl⟩ .nil)) hsp)
end
section
variable {g : Gd} {X : Cx} {W : WX} {e a b : Expr} {wa wb : WP} {SP : List D → RQ → XQ → Prop} {C : Addr}
theorem we_binS (ha : WE g X a wa) (hb : WE g X b wb) (hc : ∀ ta tb, PE X a ta → PE X b tb → PE X e (tBinS C (spX g 2 SP) (fun σ cls d H => W cls d σ H) ta tb)) :
    WEX g X W e (fun st Q Xd => wa st fun _ x => wb st fun _ y => ∃ fs gs, x = .obj C fs ∧ y = .obj C gs ∧ SP [x, y] Q Xd) := by
  obtain ⟨t, p, q⟩ := ha
  obtain ⟨t2, p2, q2⟩ := hb
  refine ⟨_, hc t t2 p p2, fun Av B gh H0 o σ st H Q Qd Xd hg F R hw hk hx => ?_⟩
  refine q Av B gh H0 o σ st H _ _ hg F R hw fun fr d v H1 k1 r1 hw1 => ?_
  refine q2 Av B gh H0 o σ st H1 _ _ hg F (R.mono F k1) hw1 fun fr2 d2 v2 H2 k2 r2 hd => ?_
  obtain ⟨fs, gs, rfl, rfl, hsp⟩ := hd
  have R2 := (R.mono F k1).mono F k2
  have y1 := r1.dr.mv (Mv.avo F k2)
  have y2 := r2.dr
  cases id y1 with
  | obj n1 e1 q1 =>
    cases id y2 with
    | obj n2 e2 q2 =>
      refine ⟨_, _, _, _, _, _, rfl, rfl, e1, e2, rfl, Avo Av B o st, _, Qd, Xd, k2.2, R2.frok F, .cons y1 (.cons y2 .nil), hsp, fun fr d v H' k r hq => ?_, fun C fs d H' k r h => hx C fs d H' ((k1.trans k2).trans k) r h⟩
      exact hk fr d v H' ((k1.trans k2).trans k) (r.back R.kp.2 (k1.trans k2)) hq
theorem we_binI (ha : WE g X a wa) (hb : WE g X b wb) (hc : ∀ ta tb, PE X a ta → PE X b tb → PE X e (tBinI C (spX g 2 SP) (fun σ cls d H => W cls d σ H) ta tb)) :
    WEX g X W e (fun st Q Xd => wa st fun _ x => wb st fun _ y => ∃ fs i, x = .obj C fs ∧ y = .int i ∧ SP [x, y] Q Xd) := by
  obtain ⟨t, p, q⟩ := ha
  obtain ⟨t2, p2, q2⟩ := hb
  refine ⟨_, hc t t2 p p2, fun Av B gh H0 o σ st H Q Qd Xd hg F R hw hk hx => ?_⟩
  refine q Av B gh H0 o σ st H _ _ hg F R hw fun fr d v H1 k1 r1 hw1 => ?_
  refine q2 Av B gh H0 o σ st H1 _ _ hg F (R.mono F k1) hw1 fun fr2 d2 v2 H2 k2 r2 hd => ?_
  obtain ⟨fs, i, rfl, rfl, hsp⟩ := hd
  have R2 := (R.mono F k1).mono F k2
  have y1 := r1.dr.mv (Mv.avo F k2)
  have y2 := r2.dr
  have e : v2 = .int i := by cases y2; rfl
  subst e
  cases id y1 with
  | obj n1 e1 q1 =>
    refine ⟨_, _, _, _, rfl, rfl, e1, rfl, Avo Av B o st, _, Qd, Xd, k2.2, R2.frok F, .cons y1 (.cons y2 .nil), hsp, fun fr d v H' k r hq => ?_, fun C fs d H' k r h => hx C fs d H' ((k1.trans k2).trans k) r h⟩
    exact hk fr d v H' ((k1.trans k2).trans k) (r.back R.kp.2 (k1.trans k2)) hq
theorem we_binR (ha : WE g X a wa) (hb : WE g X b wb) (hc : ∀ ta tb, PE X a ta → PE X b tb → PE X e (tBinR C (spX g 2 SP) (fun σ cls d H => W cls d σ H) ta tb)) :
    WEX g X W e (fun st Q Xd => wa st fun _ x => wb st fun _ y => ∃ fs i, x = .int i ∧ y = .obj C fs ∧ SP [y, x] Q Xd) := by
  obtain ⟨t, p, q⟩ := ha
  obtain ⟨t2, p2, q2⟩ := hb
  refine ⟨_, hc t t2 p p2, fun Av B gh H0 o σ st H Q Qd Xd hg F R hw hk hx => ?_⟩
  refine q Av B gh H0 o σ st H _ _ hg F R hw fun fr d v H1 k1 r1 hw1 => ?_
  refine q2 Av B gh H0 o σ st H1 _ _ hg F (R.mono F k1) hw1 fun fr2 d2 v2 H2 k2 r2 hd => ?_
  obtain ⟨fs, i, rfl, rfl, hsp⟩ := hd
  have R2 := (R.mono F k1).mono F k2
  have y1 := r1.dr
  have y2 := r2.dr
  have e : v = .int i := by cases y1; rfl
  subst e
  cases id y2 with
  | obj n1 e1 q1 =>
    refine ⟨_, _, _, _, rfl, rfl, e1, rfl, Avo Av B o st, _, Qd, Xd, k2.2, R2.frok F, .cons y2 (.cons (.int i) .nil), hsp, fun fr d v H' k r hq => ?_, fun C fs d H' k r h => hx C fs d H' ((k1.trans k2).trans k) r h⟩
    exact hk fr d v H' ((k1.trans k2).trans k) (r.back R.kp.2 (k1.trans k2)) hq
end
end DW
namespace L2
open PySem PySem.Spec PyProof.Rows
/-- list.count, flat items -/
def rCntF (K : PySem.W.Frag) : V → List V → Hp → VK → Prop := fun x xs H Q => ∃ (p : Addr) (ys : List V) (y : V), x = .ref p ∧ xs = [y] ∧ SqL K H p ys ∧ flatV y = true ∧ ys.all flatV = true ∧ Q (.int (ys.countP fun z => eqV z y : Nat)) H
theorem count_eqU {y : V} : ∀ {ys : List V} {its : List Value}, Vals ys its → ys.all flatV = true → its.countP (eqU y) = ys.countP fun z => eqV z y
  | _, _, .nil, _ => rfl
  | z :: ys, u :: its, .cons r t, f => by
    rw [List.all_cons, Bool.and_eq_true] at f
    rw [List.countP_cons, List.countP_cons, count_eqU t f.2, eqU_of r f.1]
theorem mt_countF {X : Cx} : MtR X "list.count" (rCntF X.K) := by
  intro pins s σ H x xs v us Q I rx rxs h
  obtain ⟨p, ys, y, rfl, rfl, hs, fy, fys, q⟩ := h
  cases rx
  obtain ⟨u, rfl, ru⟩ := rxs.one
  obtain ⟨its, rv, ⟨⟨cls, dd, data, sl⟩, n, ho, hc, hdn, hd⟩, hlen⟩ := I.list hs
  simp only at hc hd
  subst hc hd
  refine call_meets PySem.F.slot_list_count ⟨_, ho, rfl⟩ PySem.F.entry_list_count (PySem.F.args_list_count_2 _ _)
    (SeqAt.list_countAt p its.toArray n dd sl u (eqU y)) ⟨ho, fun z hz => mem_eqAt ru fy rv fys z (by simpa using hz), ?_⟩
  refine ⟨.int (ys.countP fun z => eqV z y : Nat), H, I.tok _, ⟨s.toks, ?_⟩, q⟩
  show Value.int ((its.toArray.toList.countP (eqU y) : Nat) : Int) s.toks = _
  rw [show its.toArray.toList = its from rfl, count_eqU rv fys]
end L2
namespace DW
open PySem PySem.Spec PyProof.Rows L2
section
variable {g : Gd} {X : Cx} {e eo ex : Expr} {wo wx : WP}
/-- xs.count(x), flat items -/
theorem we_count (ho : WR g X eo wo) (hx : WE g X ex wx) (hp : ∀ t0 t1, PE X eo t0 → PE X ex t1 → PE X e (tBM X.K "list" (rCntF X.K) t0 (tCons t1 tNil))) :
    WE g X e (fun st Q => wo st fun _ d => ∃ ds, d = .lst ds ∧ wx st fun _ y => y.flat = true ∧ ds.all D.flat = true ∧ Q false (.int ((ds.map D.fv).countP fun z => eqV z y.fv : Nat))) := by
  obtain ⟨t, p, q⟩ := ho
  obtain ⟨t2, p2, q2⟩ := hx
  refine ⟨_, hp t t2 p p2, fun Av B gh H0 o σ st H Q Qd hg F R hw hk => ?_⟩
  refine q Av B gh H0 o σ st H _ _ hg F R hw fun fr d v H1 k1 r1 hw1 => ?_
  obtain ⟨ds, rfl, hw1⟩ := hw1
  obtain ⟨p0, vs0, rfl, e0, _⟩ := id r1.lst
  refine ⟨.inl ⟨rfl, vs0, .inl (.inl e0)⟩, ?_⟩
  refine q2 Av B gh H0 o σ st H1 _ _ hg F (R.mono F k1) hw1 fun fr2 d2 v2 H2 k2 r2 hd => ?_
  obtain ⟨fy, fds, hq⟩ := hd
  obtain ⟨p1, vs, e, e1, rr⟩ := (r1.mono (fun a h => Avo.ta F h) (fun a h => .inl (F.ta a h)) k2).lst
  obtain ⟨rfl, fv⟩ := rr.flat fds
  obtain ⟨rfl, fy2⟩ := r2.dr.flat fy
  refine ⟨p1, _, _, e, rfl, .inl (.inl e1), fy2, fv, ?_⟩
  exact hk false _ _ H2 (k1.trans k2) (.old (.int _)) hq
end
theorem wex_or {g : Gd} {X : Cx} {W : WX} {e : Expr} {w1 w2 : WPX} (h1 : WEX g X W e w1) (h2 : WEX g X W e w2) : WEX g X W e (fun st Q Xd => w1 st Q Xd ∨ w2 st Q Xd) := by
  obtain ⟨t1, p1, q1⟩ := h1
  obtain ⟨t2, p2, q2⟩ := h2
  refine ⟨fun σ H Q => t1 σ H Q ∨ t2 σ H Q, ⟨fun pins s σ H Q I h => h.elim (p1.run pins s σ H Q I) (p2.run pins s σ H Q I)⟩, fun Av B gh H0 o σ st H Q Qd Xd hg F R hw hk hx => ?_⟩
  rcases hw with hw | hw
  · exact .inl (q1 Av B gh H0 o σ st H Q Qd Xd hg F R hw hk hx)
  · exact .inr (q2 Av B gh H0 o σ st H Q Qd Xd hg F R hw hk hx)
end DW
namespace DW
open PySem PySem.Spec PyProof.Rows L2
/-! ### an instance is made, or its __init__ raises -/
section
variable {X : Cx} {CX : CXT} {k : Nat} {C f : Addr} {fd : FuncData} {ps : List Str} {sp : Sp} {E : L2.St → XK} {x : Str} {p pos : Pos} {e : Expr} {es : List Expr} {t : TA}
theorem run_makeS {pins : List (Addr × Obj)} {σ : L2.St} {H : Hp} {s : Shared} {Q : VK} {us : List Value} {vs : List V} (M : Mk X.K C f) (F : FnOk X.prog X.w X.K X.mg X.base CX k f fd ps sp) (hr : Room (k + 1) X.A) (hb : Binds X.K fd ps [])
    (hx : PassesAt CX X σ (E σ)) (I : Inv X pins σ H s) (r : Vals vs us)
    (h : ∀ x dx, H x = none → H dx = none → dx ≠ x → sp (.ref x :: vs) (upd (upd H dx (.own x)) x (.ins C dx [])) (fun v H2 => v = .non ∧ Q (.ref x) H2) (E σ)) :
    wpAny (model X.prog X.w) X.A (call (.ref C) us) (EP X pins σ Q) X.xe s := by
  have hq := h (s.heap.objs.size + 1) s.heap.objs.size (I.hok.fresh (Nat.le_succ _)) (I.hok.fresh (Nat.le_refl _)) (Nat.ne_of_lt (Nat.lt_succ_self _))
  have I2 := Inv.made (C := C) I
  have r2 : Vals (V.ref (s.heap.objs.size + 1) :: vs) (Value.ref (s.heap.objs.size + 1) :: us) := .cons rfl r
  have hl : (Value.ref (s.heap.objs.size + 1) :: us ++ []).length = ps.length := by
    have e := r2.length
    rw [F.len _ _ _ _ hq] at e
    rw [List.append_nil]
    exact e.symm
  have b := hb _ (Value.ref (s.heap.objs.size + 1) :: us) I2.kIn hl
  rw [List.append_nil] at b
  refine wpAny_call (make_map (f := f) I.kIn M.makes M.init (beq_iff_eq.mp M.fn) (codeAny_mono (F.run _ X.stack _ _ ⟨Value.ref (s.heap.objs.size + 1) :: us, []⟩ (Value.ref (s.heap.objs.size + 1) :: us) _ _ (E σ) (hr.make C us [])
    (I2.env0.make C us []) b r2 hq) fun r s' hq' => ?_))
  cases r with
  | error e => exact hx pins _ _ e s' I2 hq'
  | ok fl =>
    cases fl with
    | ret u =>
      obtain ⟨v, H', I3, rv, ev, q3⟩ := I2.after hq'
      subst ev
      exact ⟨rv, ⟨V.ref (s.heap.objs.size + 1), H', I3, rfl, q3⟩⟩
    | next => exact False.elim hq'
    | brk => exact False.elim hq'
    | cont => exact False.elim hq'
def tMakeS (C : Addr) (sp : Sp) (E : L2.St → XK) (t : TA) : TE := fun σ H Q => t σ H fun vs H1 => ∀ x dx, H1 x = none → H1 dx = none → dx ≠ x → sp (.ref x :: vs) (upd (upd H1 dx (.own x)) x (.ins C dx [])) (fun v H2 => v = .non ∧ Q (.ref x) H2) (E σ)
theorem pe_makeS (M : Mk X.K C f) (F : FnOk X.prog X.w X.K X.mg X.base CX k f fd ps sp) (hr : Room (k + 1) X.A) (hg : Gl X x) (hm : X.mg x = some (.ref C)) (hb : Binds X.K fd ps []) (hx : ∀ σ, PassesAt CX X σ (E σ))
    (ha : PA X (e :: es) t) (hdb : (x == ("__debug__" : Str)) = false := by decide) (he : starEach (e :: es) X.env = (false, eval e X.env) :: starEach es X.env := by rfl) (hpl : (backTo pos (starEach es X.env)).any (·.1) = false := by rfl) :
    PE X (.Call (.Name x p) (e :: es) [] pos) (tMakeS C sp E t) := by
  refine ⟨fun pins s σ H Q I h => ?_⟩
  refine wpAny_Call_Name_kw (ld_glob I hg hm ?_ hdb)
  refine PySem.W.callWith_K (h₀ := X.base) I.ok.mod.kin M.kp (thn (ha.run pos pins s σ H _ I h) fun us s1 ⟨vs, H1, I1, r, q⟩ => ⟨I1.kIn, ?_⟩) he hpl
  exact run_makeS M F hr hb (hx σ) I1 r q
end
section
variable {g : Gd} {X : Cx} {W : WX} {e : Expr} {es : List Expr} {wa : WPA}
theorem we_makeX {C : Addr} (ha : WAR g X es wa) (sp : Sp) (m : List D → RQ → XQ → Prop) (hc : ∀ t, PA X es t → PE X e (tMakeS C sp (fun σ cls d H => W cls d σ H) t))
    (hs : ∀ (Avs Av : Addr → Prop) (H : Hp) (vs : List V) (ds : List D) (Q : VK) (Qd : RQ) (E : XK) (Xd : XQ), Fit g Avs Av H → Rdvs Avs Av H vs ds → m ds Qd Xd → (∀ fr d v H', Kp g H H' → Res Avs H v fr d H' → Qd fr d → Q v H') →
      (∀ C fs d H', Kp g H H' → XR Avs H' d fs → Xd C fs → E (.ref C) d H') →
      ∀ x dx, H x = none → H dx = none → dx ≠ x → sp (.ref x :: vs) (upd (upd H dx (.own x)) x (.ins C dx [])) (fun v H2 => v = .non ∧ Q (.ref x) H2) E) :
    WEX g X W e (fun st Q Xd => wa st fun ds => m ds Q Xd) := by
  obtain ⟨t, p, q⟩ := ha
  refine ⟨_, hc t p, fun Av B gh H0 o σ st H Q Qd Xd hg F R hw hk hx => ?_⟩
  refine q Av B gh H0 o σ st H _ _ hg F R hw fun ds vs H1 k1 r1 hd => ?_
  exact hs _ _ H1 vs ds Q Qd _ Xd ((R.mono F k1).fit F) r1 hd (fun fr d v H' k r hq => hk fr d v H' (k1.trans k) (r.back R.kp.2 k1) hq) fun C fs d H' k r h => hx C fs d H' (k1.trans k) r h
end
end DW
namespace DW
open PySem PySem.Spec PyProof.Rows L2
/-! ### dict comprehensions, whatever the keys: ints, texts, or tuples of these -/
/-- an empty dict, of either kind -/
def Emp (u : HO) : Prop := u = .dK [] ∨ u = .dT []
theorem Emp.laid {u : HO} (e : Emp u) {P : Program} {w : World} {H : Hp} (h : Heap)
    (hb : sysModules < h.objs.size) : ObjOk P w H (h.push { cls := .type "dict", data := .dict #[] }) h.objs.size u :=
  e.elim (fun z => z ▸ dk_empty h hb) fun z => z ▸ dt_empty h hb
section
variable {X : Cx} {pins : List (Addr × Obj)} {σ : L2.St} {H H' : Hp} {s : Shared}
theorem dset_put {E : Value → Shared → Prop} {m : Addr} {y v : V} {uy uv : Value} {Q : Unit → Shared → Prop} (hu : X.A.units + 1 < cLine)
    (I : Inv X pins σ H s) (p : DPut H m y v H') (ry : RelV y uy) (rv : RelV v uv) (k : ∀ s', Inv X pins σ H' s' → Q () s') :
    wpAny (model X.prog X.w) X.A (dictSet m uy uv) Q E s := by
  rcases p with ⟨ks, c, e, rfl, l, rfl⟩ | ⟨ks, c, b, e, rfl, eb, l, rfl⟩
  · exact d_dictSet I e l ry rv k
  · cases (show uy = Value.ref b from ry)
    obtain ⟨z, nm, xs, rel, here⟩ := dt_of I.hok e
    have zx : xs.length ≤ sizeLine := (Paired.length rel) ▸ z
    have zp := length_putK ks c v
    refine wpAny_dictSet_heap (hsz := zx) (show X.A.units < cLine by omega) (key_of I.hok eb) here fun h' there same => k _ ?_
    obtain ⟨q, es, ep, hq, a2, a3, a4, _, a5⟩ := there
    have nw : ObjOk X.prog X.w (upd H m (.dT (putK ks c v))) h' m (.dT (putK ks c v)) := by
      refine ⟨by omega, nm, _, (rel.put c eb rv).keeps fun c' ys ec => ?_, q, es, ep, hq, a2, a3, a4, a5⟩
      exact (upd_ne (ne_of ec e fun z => nomatch z)).trans ec
    exact d_write I (by rw [e]; trivial) same ⟨q, hq⟩ nw
end
/-- one turn: the target, the tests, the key, the value, the dict at m written -/
def dTurn (m : Addr) (bn : TG) (tt : TT) (tk tv : TE) (τ : L2.St) (vs : List Nat) (x : V) (H : Hp) (N : Hp → Prop) : Prop :=
  bn x τ H fun σ2 H2 => L2.wipe σ2 vs = τ ∧ tt σ2 H2 fun b H3 =>
    if b = true then tk σ2 H3 fun y H4 => tv σ2 H4 fun z H5 => ∃ H6, DPut H5 m y z H6 ∧ N H6 else N H3
def dTurns (J : It) (m : Addr) (bn : TG) (tt : TT) (tk tv : TE) (τ : L2.St) (vs : List Nat) (R : Hp → Prop) (W : Nat → Nat → Hp → Prop) : Prop :=
  ∀ i n H, W i n H → (J.stop i H ∧ R H) ∨ (J.go i H ∧ ∀ x H3, J.yld i H x H3 → dTurn m bn tt tk tv τ vs x H3 fun H4 => ∃ n', n' < n ∧ W (i + 1) n' H4)
def tDcP (u0 : HO) (ti : TI) (bn : TG) (tt : TT) (tk tv : TE) (vs : List Nat) : TE := fun σ H Q => ti σ H fun J H1 => ∀ m, H1 m = none →
  ∃ W : Nat → Nat → Hp → Prop, (∃ n, W 0 n (upd H1 m u0)) ∧ dTurns J m bn tt tk tv (L2.wipe σ vs) vs (fun H' => Q (.ref m) H') W
section
variable {X : Cx} {kx vx tg iter : Expr} {ifs : List Expr} {scope : Scope} {own : List (Str × Nat)} {pos : Pos} {ti : TI} {bn : TG} {tt : TT} {tk tv : TE}
/-- the loop within the block -/
theorem dc_loop {pins : List (Addr × Obj)} {σ τ : L2.St} {H3 : Hp} {s3 s4 : Shared} {m it : Addr} {ce : Env} {fp : List Addr} {tn : Nat → Heap → Prop} {J : It} {R : Hp → Prop} {W : Nat → Nat → Hp → Prop} {n0 : Nat} {vs : List Nat} {RR : Result → Shared → Prop}
    (hu : X.A.units + 1 < cLine) (hc : X.calm = true) (hτ : τ = L2.wipe σ vs) (I3 : Inv X pins σ H3 s3) (ff : ∀ b ∈ fp, FpOk X pins H3 b) (cL : ce.locals = s3.heap.objs.size)
    (I4 : Inv (X.blk s3 H3 scope ce fp) [] τ H3 s4) (T : Turn X.prog X.w X.K tg J fp it tn) (st4 : tn 0 s4.heap)
    (pg : PG (X.blk s3 H3 scope ce fp) tg bn) (pt : PTs (X.blk s3 H3 scope ce fp) ifs tt) (pk : PE (X.blk s3 H3 scope ce fp) kx tk) (pv : PE (X.blk s3 H3 scope ce fp) vx tv)
    (w0 : W 0 n0 H3) (turns : dTurns J m bn tt tk tv τ vs R W)
    (done : ∀ s' H' j, Inv X pins σ H' s' → R H' → s'.heap.Ns s3.heap.objs.size j → FpOk X pins H' s3.heap.objs.size → RR (.ok .next) s') :
    codeAny (model X.prog X.w) X.A (.compLoop (.DictComp kx vx [⟨tg, iter, ifs, 0⟩] scope pos) 0 (.ref it) (.ref m) ce) RR s4 := by
  let Y := X.blk s3 H3 scope ce fp
  let St := fun (i : Nat) (H : Hp) (s : Shared) => Inv Y [] τ H s ∧ tn i s.heap ∧ ∀ b ∈ fp, H b = none
  have still : ∀ {τ' : L2.St} {H : Hp} {s : Shared}, Inv Y [] τ' H s → (∀ b ∈ fp, H b = none) → ∀ b ∈ fp, FpOk Y [] H b := by
    intro τ' H s I hn b hb
    exact ⟨hn b hb, (I.ok.exf b hb).1, I.ok.exfs b hb, .inl hb, fun x c e => (I.ok.exf b hb).2 x c e, fun p hp => absurd (show p ∈ ([] : List (Addr × Obj)) ++ [] from hp) (by simp)⟩
  refine compLoop_anyD (fun n s => ∃ i H, St i H s ∧ W i n H) ?_ n0 ⟨0, H3, ⟨I4, st4, fun b hb => (ff b hb).1⟩, w0⟩
  rintro n s5 ⟨i, H5, ⟨I5, st5, n5⟩, w5⟩
  rcases turns i n H5 w5 with ⟨stop, hR⟩ | ⟨go, step⟩
  · refine thnF (T.done Y rfl rfl rfl hc i [] s5 _ H5 (fun _ _ => False) I5 (still I5 n5) st5 stop) fun r s6 ⟨hr, I6⟩ => ?_
    cases hr
    have I7 : Inv X pins σ H5 s6 := I3.call' (ch := fp) I6.os I6.base I6.hok I6.bare fun b hb => ⟨(ff b hb).2.2.2.1, (ff b hb).2.1, (ff b hb).2.2.2.2.1, (ff b hb).2.2.2.2.2⟩
    have nC : H5 ce.locals = none := I6.free
    obtain ⟨j, hj, _⟩ := I6.loc
    have hj : s6.heap.Ns ce.locals j := hj
    rw [cL] at nC hj
    exact done s6 H5 j I7 hR hj (I3.fpOk (Nat.le_refl _) nC)
  · refine thnF (T.item Y rfl rfl rfl hc i [] s5 _ H5 (fun _ _ => False) I5 (still I5 n5) st5 go) fun r s6 ⟨u, hr, h6⟩ => ?_
    cases hr
    refine thnF h6 fun _ s7 ⟨x, H7, I7, r7, y7, st7, n7⟩ => ?_
    have Ip := I7.pinned (still I7 n7) (T.obj _ _ st7)
    refine thnF (pg.run _ s7 _ H7 x u _ Ip r7 (step x H7 y7)) fun _ s8 ⟨σ8, H8, I8, e8, q8⟩ => ?_
    have back : ∀ {s : Shared} {H : Hp}, Inv Y ([] ++ pinsAt fp s7.heap) σ8 H s → (∃ n', n' < n ∧ W (i + 1) n' H) → ∃ k, k < n ∧ ∃ i H, St i H s ∧ W i k H := by
      rintro s H I ⟨n', hn, w'⟩
      have stay : ∀ b ∈ fp, ∀ o, s7.heap.get? b = some o → s.heap.get? b = some o ∧ H b = none := fun b hb o e =>
        have z := I.pin (b, o) (List.mem_append_right _ (List.mem_append_right _ (mem_pinsAt hb e)))
        ⟨z.1, z.2.1⟩
      have len : τ.length = σ8.length := by rw [← e8, wipe_length]
      refine ⟨n', hn, i + 1, H, ⟨(I.unpinned (pins := [])).weak len fun j v e => ?_, T.keep _ _ _ st7 fun b hb o e => (stay b hb o e).1, fun b hb => ?_⟩, w'⟩
      · exact (wipe_some (vs := vs) (by rw [e8]; exact e)).1
      · obtain ⟨o, e, _⟩ := T.obj _ _ st7 b hb
        exact (stay b hb o e).2
    refine thnF (pt.run _ s8 σ8 H8 _ I8 q8) fun b s9 ⟨H9, I9, q9⟩ => ?_
    cases b with
    | false =>
      simp only [Bool.false_eq_true, if_false] at q9 ⊢
      exact back I9 q9
    | true =>
      simp only [if_true] at q9 ⊢
      refine thnF (pk.run _ s9 σ8 H9 _ I9 q9) fun z s10 ⟨yk, H10, I10, r10, q10⟩ => ?_
      refine thnF (pv.run _ s10 σ8 H10 _ I10 q10) fun z2 s11 ⟨yv, H11, I11, r11, H12, put, nx⟩ => ?_
      exact dset_put (X := Y) hu I11 put r10 r11 fun s12 I12 => back I12 nx
/-- the comprehension, whatever is done with the dict -/
theorem dcP_core {pins : List (Addr × Obj)} {s : Shared} {σ : L2.St} {H : Hp} {Q : VK} {u0 : HO} {pos' : Pos} {use : Option (Value → Sem Unit)} {Qf : Value → Shared → Prop} (he0 : Emp u0) (hu : X.A.units + 1 < cLine) (hc : X.calm = true) (hN : X.N.Nodup)
    (I : Inv X pins σ H s) (hi : PI X tg iter ti) (ok : BlkOk X.N X.env.scope scope own)
    (pg : ∀ i : Blks X scope, PG (blkX X scope i) tg bn) (pt : ∀ i : Blks X scope, PTs (blkX X scope i) ifs tt) (pk : ∀ i : Blks X scope, PE (blkX X scope i) kx tk) (pv : ∀ i : Blks X scope, PE (blkX X scope i) vx tv)
    (hs : ∀ x, foldedSetIterable iter X.env x = pure x) (h : tDcP u0 ti bn tt tk tv (own.map (·.2)) σ H Q)
    (hRR : ∀ m C s' j H', Inv X pins σ H' s' → Q (.ref m) H' → s'.heap.Ns C j → FpOk X pins H' C → compPost (model X.prog X.w) X.A X.xe use Qf (.ref m) C (.ok .next) s') :
    wpAny (model X.prog X.w) X.A (comprehension (.DictComp kx vx [⟨tg, iter, ifs, 0⟩] scope pos) scope X.env pos' newDict false (eval iter X.env) use) Qf X.xe s := by
  have free : ∀ y ∈ scope.names, y.2 = .free → ∃ c, X.env.cells.lookup y.1 = some c := by
    intro y hy e
    exact (ok.free y hy e).elim (fun k => I.ok.has _ (.inl k)) fun k => I.ok.has _ (.inr k)
  refine wpAny_comprehension_free rfl hs (closure_ok free) ok.kind (fun y hy e => by rw [ok.uniq y hy, e])
    (thn (hi.run pins s σ H _ I h) fun xv s1 hx => thn hx fun itv s2 h2 => ?_)
  obtain ⟨it, fp, tn, J, H2, rfl, I2, T, st2, f2, q⟩ := h2
  refine wpAny_newObj_type (newEnv_comp ?_)
  obtain ⟨W, ⟨n0, w0⟩, turns⟩ := q s2.heap.objs.size (I2.hok.fresh (Nat.le_refl _))
  have J3 : Inv X pins σ (upd H2 s2.heap.objs.size u0) { s2 with heap := s2.heap.push { cls := .type "dict", data := .dict #[] } } :=
    I2.laid (t' := s2.toks) (fun b o e => Heap.get?_push_of_some _ e) (Nat.le_refl _) (he0.laid s2.heap I2.big)
  have low : ∀ b ∈ fp, b < s2.heap.objs.size := by
    intro b hb
    obtain ⟨o, e, _⟩ := T.obj _ _ st2 b hb
    exact Heap.lt_size e
  have g3 : ∀ b ∈ fp, FpOk X pins (upd H2 s2.heap.objs.size u0) b := by
    intro b hb
    refine ⟨?_, (f2 b hb).2⟩
    rw [upd_ne (Nat.ne_of_lt (low b hb))]
    exact (f2 b hb).1
  have st3 := T.keep _ _ (s2.heap.push { cls := .type "dict", data := .dict #[] }) st2 fun b _ o e => Heap.get?_push_of_some _ e
  generalize ed : s2.heap.objs.size = m at J3 g3 w0 turns low
  have sz3 : (s2.heap.push { cls := .type "dict", data := .dict #[] }).objs.size = m + 1 := by rw [Heap.size_push, ed]
  generalize e3 : s2.heap.push { cls := .type "dict", data := .dict #[] } = hp3 at J3 st3 sz3 ⊢
  have I4 := block_start J3 ok hN fun b hb => ⟨g3 b hb, by show b < hp3.objs.size; rw [sz3]; exact Nat.lt_succ_of_lt (low b hb)⟩
  have st4 : tn 0 (pushCells (hp3.push { cls := .type "dict", data := .dict #[] }) scope.names) := T.keep _ _ _ st3 fun b _ o e => pushCells_keeps _ _ _ _ (Heap.get?_push_of_some _ e)
  have loop := dc_loop (iter := iter) (pos := pos) (RR := compPost (model X.prog X.w) X.A X.xe use Qf (.ref m) hp3.objs.size) hu hc rfl J3 g3 rfl I4 T st4 (pg (_, _, _, _, _)) (pt (_, _, _, _, _)) (pk (_, _, _, _, _)) (pv (_, _, _, _, _)) w0 turns
    fun s' H' j I' hQ hj f => hRR m _ s' j H' I' hQ hj f
  exact codeAny_compStart_dict loop (T.self X.A 0 _ _ _ st4 loop)
theorem pe_dcP {u0 : HO} (he0 : Emp u0) (hu : X.A.units + 1 < cLine) (hc : X.calm = true) (hN : X.N.Nodup) (hi : PI X tg iter ti) (ok : BlkOk X.N X.env.scope scope own)
    (pg : ∀ i : Blks X scope, PG (blkX X scope i) tg bn) (pt : ∀ i : Blks X scope, PTs (blkX X scope i) ifs tt) (pk : ∀ i : Blks X scope, PE (blkX X scope i) kx tk) (pv : ∀ i : Blks X scope, PE (blkX X scope i) vx tv)
    (hs : ∀ x, foldedSetIterable iter X.env x = pure x := by intro _; rfl) :
    PE X (.DictComp kx vx [⟨tg, iter, ifs, 0⟩] scope pos) (tDcP u0 ti bn tt tk tv (own.map (·.2))) := by
  constructor
  intro pins s σ H Q I h
  rw [arm_eval_DictComp]
  refine dcP_core he0 hu hc hN I hi ok pg pt pk pv hs h fun m C s' j H' I' hQ hj f => ⟨j, hj, fun h'' sb => ?_⟩
  obtain ⟨f0, f1, f2, f3, f4, f5⟩ := f
  exact ⟨.ref m, H', I'.turned (t' := s'.toks) (fun b o hb e => (sb.2 b hb).trans e) f0 f1 f3 f4 f5, rfl, hQ⟩
/-- name = {k: v for ..}, a plain name: stored ahead of the block's end -/
theorem ps_setDc {i : Nat} {y : Str} {py spos : Pos} {u0 : HO} (he0 : Emp u0) (hu : X.A.units + 1 < cLine) (hc : X.calm = true) (hN : X.N.Nodup) (hy : X.N[i]? = some y) (hyl : X.env.scope.names.lookup y = some .local)
    (hsw : swapsWith (.DictComp kx vx [⟨tg, iter, ifs, 0⟩] scope pos) (some (.Name y py)) spos.line X.env = pure true) (hi : PI X tg iter ti) (ok : BlkOk X.N X.env.scope scope own)
    (pg : ∀ i : Blks X scope, PG (blkX X scope i) tg bn) (pt : ∀ i : Blks X scope, PTs (blkX X scope i) ifs tt) (pk : ∀ i : Blks X scope, PE (blkX X scope i) kx tk) (pv : ∀ i : Blks X scope, PE (blkX X scope i) vx tv)
    (hs : ∀ x, foldedSetIterable iter X.env x = pure x := by intro _; rfl) :
    PS X (.Assign [.Name y py] (.DictComp kx vx [⟨tg, iter, ifs, 0⟩] scope pos) spos) (tAsg (tDcP u0 ti bn tt tk tv (own.map (·.2))) (gName i)) := by
  constructor
  intro pins s σ H D I h
  rw [exec_Assign_Name_used _ _ _ _ hsw]
  refine wpAny_bind (wpAny_standAt (wpAny_bind ?_))
  have h' : tDcP u0 ti bn tt tk tv (own.map (·.2)) σ H fun x H1 => gName i x σ H1 D.nx := h
  show wpAny _ X.A (do
    let _ ← comprehension (.DictComp kx vx [⟨tg, iter, ifs, 0⟩] scope pos) scope X.env (firstIterPos [⟨tg, iter, ifs, 0⟩] pos) newDict false (eval iter X.env) (some (assign (.Name y py) X.env))) _ _ s
  refine wpAny_bind (thn (dcP_core (Qf := fun _ s' => SP X pins D .next s') he0 hu hc hN I hi ok pg pt pk pv hs h' fun m C s' j H' I' hQ hj f => ?_) fun _ s' hq => wpAny_pure (wpAny_pure hq))
  show wpAny _ _ (assign (.Name y py) X.env (.ref m)) _ _ _
  refine wpAny_assign_Name (store_ok2 (v := V.ref m) I' hN hy (.inl hyl) rfl (fun s2 I2 hx => ?_) (.inr hyl))
  obtain ⟨a, sb, ha⟩ := hx
  obtain ⟨f0, f1, f2, f3, f4, f5⟩ := f
  have ne : C ≠ a := ha.elim (fun z => z ▸ f1) fun z e => f4 y a z e.symm
  exact ⟨j, hj.sameBut sb ne, fun h3 sb3 => ⟨_, H', I2.turned (t' := s2.toks) (fun b o hb e => (sb3.2 b hb).trans e) f0 f1 f3 f4 f5, hQ⟩⟩
theorem sw_trueD {gs : List Comprehension} {py : Pos} {y : Str} {l : Nat} {env : Env} (hk : env.scope.kind = .function) (hy : env.scope.names.lookup y = some .local) (hl : (py.line == pos.line) = true)
    (ha : (scope.names.any fun (n, k) => n == y && (k == .local || k == .cell)) = false) : swapsWith (.DictComp kx vx gs scope pos) (some (.Name y py)) l env = pure true := by
  have hb : env.blockKind = .function := by unfold Env.blockKind; rw [hk]; rfl
  have ky : env.kindOf y = some .local := hy
  unfold swapsWith
  simp only [ky, hb, hl, ha, Expr.pos]
  rfl
end
end DW
namespace DW
open PySem PySem.Spec PyProof.Rows L2
/-! ### dict comprehensions over plain data -/
def emC : Bool → Ct | true => .dT [] | false => .dK []
def emU : Bool → HO | true => .dT [] | false => .dK []
/-- the dict with one more entry -/
def putC : Ct → D → D → (Ct → Prop) → Prop
  | .dT kvs, y, d, R => ∃ k, y = keyD k ∧ kvs.length < sizeLine ∧ R (.dT (putD kvs k d))
  | .dK kvs, y, d, R => ∃ k, y = kD k ∧ kvs.length < sizeLine ∧ R (.dK (putD kvs k d))
  | .lst _, _, _, _ => False
def wDc (bn : WPG) (tt : WPT) (tk tv : WP) (s0 : Sx) : List D → Ct → (Ct → Prop) → Prop
  | [], acc, Q => Q acc
  | d :: ds, acc, Q => bn d s0 fun s => tt s fun c => if c = true then tk s fun _ y => tv s fun _ z => putC acc y z fun acc' => wDc bn tt tk tv s0 ds acc' Q else wDc bn tt tk tv s0 ds acc Q
theorem wipe_twice (js : List Nat) (σ : L2.St) : L2.wipe (L2.wipe σ js) js = L2.wipe σ js := by
  have key : ∀ ks : List Nat, (∀ k ∈ ks, k ∈ js) → L2.wipe (L2.wipe σ js) ks = L2.wipe σ js := by
    intro ks
    induction ks with
    | nil => intro _; rfl
    | cons k ks ih =>
      intro hk
      simp only [L2.wipe]
      rw [ih fun z hz => hk z (List.mem_cons_of_mem _ hz)]
      apply List.ext_getElem?
      intro n
      by_cases e : k = n
      · subst e
        by_cases hl : k < (L2.wipe σ js).length
        · rw [List.getElem?_set_self hl]
          cases q : (L2.wipe σ js)[k]? with
          | none => rw [List.getElem?_eq_none_iff] at q; omega
          | some z => cases z with
            | none => rfl
            | some z => exact absurd (hk k List.mem_cons_self) (L2.wipe_some q).2
        · rw [List.getElem?_eq_none (by simpa using hl), List.getElem?_eq_none (by simpa using hl)]
      · rw [List.getElem?_set_ne e]
  exact key js fun _ h => h
/-- an entry put, on the heap -/
theorem putC_go {Avb : Addr → Prop} {H : Hp} {p : Addr} {c : Ct} {u : HO} {y z : D} {vy vz : V} {R : Ct → Prop} (e : H p = some u) (r : CR Avb H c u) (bp : Avb p) (ry : DR Avb H vy y) (rz : DR Avb H vz z) (h : putC c y z R) :
    ∃ c' u', DPut H p vy vz (upd H p u') ∧ CR Avb (upd H p u') c' u' ∧ R c' := by
  have m : ∀ u', Mv Avb Avb H (upd H p u') := fun u' => ⟨fun a x n e => ⟨n, by rw [upd_ne fun (z : a = p) => n (z ▸ bp)]; exact e⟩⟩
  cases c with
  | lst ds => exact h.elim
  | dK kvs =>
    obtain ⟨k, rfl, hl, h⟩ := h
    obtain ⟨vs, rfl, rs⟩ := r
    cases ry.kV
    exact ⟨.dK (putD kvs k z), _, DPut.k e (by rw [rs.len]; exact hl), ⟨_, rfl, (rs.put rz).mv (m _)⟩, h⟩
  | dT kvs =>
    obtain ⟨k, rfl, hl, h⟩ := h
    obtain ⟨vs, rfl, rs⟩ := r
    cases ry with
    | tup n e2 r2 =>
      rename_i b ws
      rw [r2.kVs] at e2
      exact ⟨.dT (putD kvs k z), _, DPut.t e e2 (by rw [rs.len]; exact hl), ⟨_, rfl, (rs.put rz).mv (m _)⟩, h⟩
section
variable {g : Gd} {X : Cx} {kx vx tg iter : Expr} {ifs : List Expr} {scope : Scope} {own : List (Str × Nat)} {pos : Pos} {wi : WPI} {bn : WPG} {tt : WPT} {tk tv : WP}
abbrev SndE (g : Gd) (w : WP) (t : TE) : Prop := ∀ Av B gh H0 o σ st H Q Qd, g.G H0 → FrOk g Av H0 → Rel g Av B gh H0 o σ st H → w st Qd → (∀ fr d v H', Kp g H H' → Res (Avo Av B o st) H v fr d H' → Qd fr d → Q v H') → t σ H Q
abbrev SndT (g : Gd) (w : WPT) (t : TT) : Prop := ∀ Av B gh H0 o σ st H Q Qd, g.G H0 → FrOk g Av H0 → Rel g Av B gh H0 o σ st H → w st Qd → (∀ b H', Kp g H H' → Qd b → Q b H') → t σ H Q
abbrev SndI (g : Gd) (w : WPI) (t : TI) : Prop := ∀ Av B gh H0 o σ st H R Qd, g.G H0 → FrOk g Av H0 → Rel g Av B gh H0 o σ st H → w st Qd → (∀ ds Gh J H', Kp g H H' → (∀ v d, Gh v d → DR (Avo Av B o st) H' v d) → Walk g J Gh ds → Qd ds → R J H') → t σ H R
abbrev SndG (g : Gd) (js : List Nat) (b : WPG) (t : TG) : Prop := ∀ Av B gh H0 o σ st H v d Q Qd, g.G H0 → FrOk g Av H0 → Rel g Av B gh H0 o σ st H → DR (Avo Av B o st) H v d → b d st Qd →
  (∀ σ' st', Rel g Av B gh H0 o σ' st' H → wipe σ' js = wipe σ js → ((∀ j ∈ js, ∀ c : Ct, st[j]? ≠ some (Sl.ow c)) → ∀ a, Avo Av B o st a → Avo Av B o st' a) → Qd st' → Q σ' H) → t v σ H Q
theorem dc_sndO {ti : TI} {tb : TG} {tT : TT} {tK tV : TE} (js : List Nat) (kt : Bool) (qi : SndI g wi ti) (qb : SndG g js bn tb) (qt : SndT g tt tT) (qk : SndE g tk tK) (qv : SndE g tv tV) {Av B : Addr → Prop} {gh : V → D → Prop} {H0 H : Hp} {o : Nat → Addr} {σ : L2.St} {st : Sx} {Q : VK} {Qc : Ct → Prop}
    (hg : g.G H0) (F : FrOk g Av H0) (R : Rel g Av B gh H0 o σ st H) (hw : wi st fun ds => wDc bn tt tk tv (wipeS st js) ds (emC kt) Qc)
    (hk : ∀ c p u H', Kp g H H' → H p = none → H' p = some u → CR (fun a => Avo Av B o st a ∨ a = p) H' c u → Qc c → Q (.ref p) H') : tDcP (emU kt) ti tb tT tK tV js σ H Q := by
  refine qi Av B gh H0 o σ st H _ _ hg F R hw fun ds Gh J H1 k1 r1 wk hd => ?_
  intro p hp
  let gh' := fun (v : V) (d : DW.D) => gh v d ∨ Gh v d
  have R1 : Rel g Av B gh' H0 o σ st H1 := by
    have R1 := R.mono F k1
    exact ⟨R1.len, R1.kp, R1.val, R1.ow, R1.inj, R1.bt, fun v d h => h.elim (R1.gho v d) fun h => r1 v d h⟩
  have kp1 : Kp g H1 (upd H1 p (emU kt)) := Kp.new R1.kp.2 hp
  have h0p : H0 p = none := R1.kp.free hg hp
  have R2 : Rel g Av (fun a => B a ∨ a = p) gh' H0 o σ st (upd H1 p (emU kt)) := R1.addB F hg kp1 hp (nt_of upd_same (by cases kt <;> exact fun _ z => nomatch z))
  let Ab := Avo Av (Blk B o st js p) o (wipeS st js)
  have bp : Ab p := .inl (.inr (.inl (.inr rfl)))
  have noown : ∀ j ∈ js, ∀ es : Ct, (wipeS st js)[j]? ≠ some (Sl.ow es) := fun j hj es h => by
    rcases wipeS_get h with ⟨_, z⟩ | ⟨nj, _⟩
    · cases z
    · exact nj hj
  let W := fun (i m : Nat) (H : Hp) => i ≤ ds.length ∧ m = ds.length - i ∧ ∃ c u, H p = some u ∧ CR Ab H c u ∧ Rel g Av (fun a => B a ∨ a = p) gh' H0 o σ st H ∧
    (∀ a x, H1 a = some x → ¬ g.W a → H a = some x) ∧ wDc bn tt tk tv (wipeS st js) (ds.drop i) c Qc
  have start : CR Ab (upd H1 p (emU kt)) (emC kt) (emU kt) := by
    cases kt
    · exact ⟨[], rfl, .nil⟩
    · exact ⟨[], rfl, .nil⟩
  refine ⟨W, ⟨ds.length, Nat.zero_le _, rfl, _, _, upd_same, start, R2, fun a x e _ => by rw [upd_ne (ne_of_none e hp)]; exact e, by simpa using hd⟩, fun i m H2 hW => ?_⟩
  obtain ⟨hi, rfl, c, u, hu, rc, R3, keep, hf⟩ := hW
  have ta : ∀ a, g.T a → Ab a := fun a h => Avo.ta F h
  by_cases hl : i < ds.length
  · have r0 := wk _ _ H2 ((R3.blk F js).fit F) (fun v d h => (R3.blk F js).gho v d (.inr h))
    obtain ⟨go, yl⟩ := r0.2 i _ (List.getElem?_eq_getElem hl)
    rw [List.drop_eq_getElem_cons hl] at hf
    refine .inr ⟨go, fun x H3 y => ?_⟩
    obtain ⟨k3, rx⟩ := yl x H3 y
    have R4 := (R3.mono F k3).blk F js
    refine qb Av _ gh' H0 o _ _ H3 x _ _ _ hg F R4 rx hf fun σ5 st5 R5 hwp hav hb5 => ⟨hwp.trans (wipe_twice js σ), ?_⟩
    have hav := hav noown
    refine qt Av _ gh' H0 o σ5 st5 H3 _ _ hg F R5 hb5 fun b H4 k4 hc => ?_
    have k34 := k3.trans k4
    have stay : ∀ {H5 : Hp}, Kp g H2 H5 → H5 p = some u := fun k => k.1 p _ hu fun w => (R3.bt p (.inr rfl)).2 (g.wt _ w)
    cases b with
    | false =>
      simp only [Bool.false_eq_true, if_false] at hc ⊢
      exact ⟨_, by omega, hl, rfl, c, u, stay k34, rc.mv (Mv.kp ta k34), R3.mono F k34, fun a x e n => k34.1 a x (keep a x e n) n, hc⟩
    | true =>
      simp only [if_true] at hc ⊢
      have back : ∀ {H5 : Hp} {v : V} {d : DW.D}, DR (Avo Av (Blk B o st js p) o st5) H5 v d → DR Ab H5 v d := fun r => r.mv ⟨fun a x n e => ⟨fun z => n (hav a z), e⟩⟩
      refine qk Av _ gh' H0 o σ5 st5 H4 _ _ hg F (R5.mono F k4) hc fun fr y vy H5 k5 r5 hc2 => ?_
      refine qv Av _ gh' H0 o σ5 st5 H5 _ _ hg F ((R5.mono F k4).mono F k5) hc2 fun fr2 z vz H6 k6 r6 hc3 => ?_
      have kf := (k34.trans k5).trans k6
      obtain ⟨c', u', put, rc', hq⟩ := putC_go (stay kf) (rc.mv (Mv.kp ta kf)) bp ((back r5.dr).mv (Mv.kp ta k6)) (back r6.dr) hc3
      exact ⟨_, put, _, by omega, hl, rfl, c', u', upd_same, rc', (R3.mono F kf).updB (.inr rfl) h0p rc'.mt.ntup, fun a x e n => by rw [upd_ne (ne_of_none e hp)]; exact kf.1 a x (keep a x e n) n, hq⟩
  · have e : i = ds.length := by omega
    subst e
    rw [List.drop_length] at hf
    have st3 := wk _ _ H2 (R3.fit F) (fun v d h => R3.gho v d (.inr h))
    have sub : ∀ a, (Avo Av B o st a ∨ a = p) → Ab a := by
      rintro a (((z | z) | ⟨j, es, e1, e2⟩) | rfl)
      · exact .inl (.inl z)
      · exact .inl (.inr (.inl (.inl z)))
      · by_cases hj : j ∈ js
        · exact .inl (.inr (.inr ⟨j, es, hj, e1, e2⟩))
        · exact .inr ⟨j, es, by rw [wipeS_keep hj]; exact e1, e2⟩
      · exact bp
    have kf : Kp g H H2 := ⟨fun a x e n => keep a x (k1.1 a x e n) n, R3.kp.2⟩
    exact .inl ⟨st3.1, hk c p u H2 kf (k1.free R.kp.2 hp) hu (rc.mv ⟨fun a x n e => ⟨fun z => n (sub a z), e⟩⟩) hf⟩
theorem dc_snd {ti : TI} {tb : TG} {tT : TT} {tK tV : TE} (js : List Nat) (kt : Bool) (qi : SndI g wi ti) (qb : SndG g js bn tb) (qt : SndT g tt tT) (qk : SndE g tk tK) (qv : SndE g tv tV) :
    SndE g (fun st Q => wi st fun ds => wDc bn tt tk tv (wipeS st js) ds (emC kt) fun c => Q false c.d) (tDcP (emU kt) ti tb tT tK tV js) := by
  intro Av B gh H0 o σ st H Q Qd hg F R hw hk
  refine dc_sndO (Qc := fun c => Qd false c.d) js kt qi qb qt qk qv hg F R hw fun c p u H' k hn hu rc hq => ?_
  have np : ¬ Avo Av B o st p := fun z => R.tracked F z hn
  exact hk false c.d (.ref p) H' k (.old (rc.dr np hu fun a z => .inl z)) hq
theorem snd_uni {P : Cx → Expr → TE → Prop} (x : Expr) (anti : ∀ (X' : Cx) (f : Blks X scope → TE) (i : Blks X scope), P X' x (f i) → P X' x (fun σ H Q => ∀ i, f i σ H Q)) {w : WP} (h : ∀ i : Blks X scope, ∃ t, P (blkX X scope i) x t ∧ SndE g w t) :
    ∃ t, (∀ i : Blks X scope, P (blkX X scope i) x t) ∧ SndE g w t :=
  uni (ι := Blks X scope) (T := TE) (fun f σ H Q => ∀ i, f i σ H Q) (fun f i p => anti _ f i p) (fun f hf Av B gh H0 o σ st H Q Qd a b c e k i => hf i Av B gh H0 o σ st H Q Qd a b c e k) h
theorem we_dc (kt : Bool) (hu : X.A.units + 64 < cLine) (hc : X.calm = true) (hN : X.N.Nodup) (hi : WI g X tg iter wi) (ok : BlkOk X.N X.env.scope scope own) (hg : ∀ i : Blks X scope, WG g (blkX X scope i) tg (own.map (·.2)) bn)
    (ht : ∀ i : Blks X scope, WTs g (blkX X scope i) ifs tt) (hk : ∀ i : Blks X scope, WE g (blkX X scope i) kx tk) (hv : ∀ i : Blks X scope, WE g (blkX X scope i) vx tv) (hs : ∀ x, foldedSetIterable iter X.env x = pure x := by intro _; rfl) :
    WE g X (.DictComp kx vx [⟨tg, iter, ifs, 0⟩] scope pos) (fun st Q => wi st fun ds => wDc bn tt tk tv (wipeS st (own.map (·.2))) ds (emC kt) fun c => Q false c.d) := by
  obtain ⟨ti, pi, qi⟩ := hi
  obtain ⟨⟨tb, pb, qb⟩, ⟨tT, pt, qt⟩, ⟨tK, pk, qk⟩⟩ := lc_parts hg ht hk
  obtain ⟨_, _, ⟨tV, pv, qv⟩⟩ := lc_parts hg ht hv
  have em : Emp (emU kt) := by
    cases kt
    · exact .inl rfl
    · exact .inr rfl
  exact ⟨_, pe_dcP em (by omega) hc hN pi ok pb pt pk pv hs, dc_snd _ kt qi qb qt qk qv⟩
/-- name = {k: v for ..} with a plain name -/
theorem ws_setDc (i : Nat) {y : Str} {py spos : Pos} (kt : Bool) (hu : X.A.units + 64 < cLine) (hc : X.calm = true) (hN : X.N.Nodup) (hy : X.N[i]? = some y) (hyl : X.env.scope.names.lookup y = some .local)
    (hsw : swapsWith (.DictComp kx vx [⟨tg, iter, ifs, 0⟩] scope pos) (some (.Name y py)) spos.line X.env = pure true)
    (hi : WI g X tg iter wi) (ok : BlkOk X.N X.env.scope scope own) (hg : ∀ i : Blks X scope, WG g (blkX X scope i) tg (own.map (·.2)) bn)
    (ht : ∀ i : Blks X scope, WTs g (blkX X scope i) ifs tt) (hk : ∀ i : Blks X scope, WE g (blkX X scope i) kx tk) (hv : ∀ i : Blks X scope, WE g (blkX X scope i) vx tv) (hs : ∀ x, foldedSetIterable iter X.env x = pure x := by intro _; rfl) :
    WS g X (.Assign [.Name y py] (.DictComp kx vx [⟨tg, iter, ifs, 0⟩] scope pos) spos) (fun De st => wi st fun ds => wDc bn tt tk tv (wipeS st (own.map (·.2))) ds (emC kt) fun c => De.nx (st.set i (.val c.d))) := by
  obtain ⟨ti, pi, qi⟩ := hi
  obtain ⟨⟨tb, pb, qb⟩, ⟨tT, pt, qt⟩, ⟨tK, pk, qk⟩⟩ := lc_parts hg ht hk
  obtain ⟨_, _, ⟨tV, pv, qv⟩⟩ := lc_parts hg ht hv
  have em : Emp (emU kt) := by
    cases kt
    · exact .inl rfl
    · exact .inr rfl
  refine ⟨_, ps_setDc em (by omega) hc hN hy hyl hsw pi ok pb pt pk pv hs, fun Av B gh H0 o σ st H E De hg F R hw K => ?_⟩
  refine dc_snd _ kt qi qb qt qk qv Av B gh H0 o σ st H _ (fun _ d => De.nx (st.set i (.val d))) hg F R hw fun fr d v H1 k1 r1 hd => ?_
  exact K.nx o _ _ H1 ((R.mono F k1).setVal i r1.dr) hd
/-- name = {k: v for ..}, the slot's own -/
theorem ws_ownDc (i : Nat) (kt : Bool) {s : Stmt} (hu : X.A.units + 64 < cLine) (hc : X.calm = true) (hN : X.N.Nodup) (hi : WI g X tg iter wi) (ok : BlkOk X.N X.env.scope scope own) (hg : ∀ i : Blks X scope, WG g (blkX X scope i) tg (own.map (·.2)) bn)
    (ht : ∀ i : Blks X scope, WTs g (blkX X scope i) ifs tt) (hk : ∀ i : Blks X scope, WE g (blkX X scope i) kx tk) (hv : ∀ i : Blks X scope, WE g (blkX X scope i) vx tv)
    (hp : ∀ te, PE X (.DictComp kx vx [⟨tg, iter, ifs, 0⟩] scope pos) te → PS X s (tAsg te (gName i))) (hs : ∀ x, foldedSetIterable iter X.env x = pure x := by intro _; rfl) :
    WS g X s (fun De st => wi st fun ds => wDc bn tt tk tv (wipeS st (own.map (·.2))) ds (emC kt) fun c => De.nx (st.set i (.ow c))) := by
  obtain ⟨ti, pi, qi⟩ := hi
  obtain ⟨⟨tb, pb, qb⟩, ⟨tT, pt, qt⟩, ⟨tK, pk, qk⟩⟩ := lc_parts hg ht hk
  obtain ⟨_, _, ⟨tV, pv, qv⟩⟩ := lc_parts hg ht hv
  have em : Emp (emU kt) := by
    cases kt
    · exact .inl rfl
    · exact .inr rfl
  refine ⟨_, hp _ (pe_dcP em (by omega) hc hN pi ok pb pt pk pv hs), fun Av B gh H0 o σ st H E De hg F R hw K => ?_⟩
  refine dc_sndO (Qc := fun c => De.nx (st.set i (.ow c))) _ kt qi qb qt qk qv hg F R hw fun c p u H' k hn hu rc hq => ?_
  have rc' : CR (Avo Av (fun a => B a ∨ a = p) o st) H' c u := rc.mv ⟨fun a x n e => ⟨fun z => n (by
    rcases z with (z | z | z) | z
    · exact .inl (.inl (.inl z))
    · exact .inl (.inl (.inr z))
    · exact .inr z
    · exact .inl (.inr z)), e⟩⟩
  obtain ⟨o', R'⟩ := (R.addB F hg k hn (nt_of hu rc.mt.ntup)).setOw (fun z => (R.bt p z).1 hn) (R.kp.free hg hn) hu rc' i
  exact K.nx o' _ _ _ R' hq
/-- name = {k: v}, k an int or a text -/
theorem ws_ownDisp (i : Nat) {s : Stmt} {wk wv : WP} {dpos : Pos} (hk : WE g X kx wk) (hv : WE g X vx wv) (hp : ∀ te, PE X (.Dict [some kx] [vx] dpos) te → PS X s (tAsg te (gName i))) :
    WS g X s (fun De st => wk st fun _ y => wv st fun _ d => ∃ k, y = kD k ∧ De.nx (st.set i (.ow (.dK [(k, d)])))) := by
  obtain ⟨t1, p1, q1⟩ := hk
  obtain ⟨t2, p2, q2⟩ := hv
  refine ⟨_, hp _ (pe_disp (pps_cons p1 p2 pps_nil) rfl rfl (by simp) (by simp)), fun Av B gh H0 o σ st H E De hg F R hw K => ?_⟩
  intro p hn
  have k : Kp g H (upd H p (.dK [])) := Kp.new R.kp.2 hn
  have h0p : H0 p = none := R.kp.free hg hn
  have R1 : Rel g Av (fun a => B a ∨ a = p) gh H0 o σ st (upd H p (.dK [])) := R.addB F hg k hn (nt_of upd_same (fun _ z => nomatch z))
  refine q1 Av _ gh H0 o σ st _ _ _ hg F R1 hw fun f1 y v1 H1 k1 r1 hw1 => ?_
  have R2 := R1.mono F k1
  refine q2 Av _ gh H0 o σ st H1 _ _ hg F R2 hw1 fun f2 d v2 H2 k2 r2 hd => ?_
  have R3 := R2.mono F k2
  obtain ⟨c, rfl, hd⟩ := hd
  have e2 : H2 p = some (.dK []) := (k1.trans k2).1 p _ upd_same fun w => (R1.bt p (.inr rfl)).2 (g.wt _ w)
  have ev : v1 = L2.kV c := r1.dr.kV
  subst ev
  refine ⟨e2, [(c, v2)], rfl, by simp, ?_⟩
  have em : mergeK [] [(c, v2)] = [(c, v2)] := rfl
  rw [em]
  have R4 := R3.updB (p := p) (u := .dK [(c, v2)]) (.inr rfl) h0p (fun _ z => nomatch z)
  have m : Mv (Avo Av (fun a => B a ∨ a = p) o st) (Avo Av (fun a => B a ∨ a = p) o st) H2 (upd H2 p (.dK [(c, v2)])) := ⟨fun a x n e => ⟨n, by rw [upd_ne fun (z : a = p) => n (.inl (.inr (.inr z)))]; exact e⟩⟩
  obtain ⟨o', R'⟩ := R4.setOw (fun z => (R.bt p z).1 hn) h0p (ds := .dK [(c, d)]) upd_same ⟨_, rfl, .cons (r2.dr.mv m) .nil⟩ i
  exact K.nx o' _ _ _ R' hd
/-- list(d), the keys ints or texts -/
def mListK : SemC := fun ds Q => ∃ kvs : List (L2.Key × D), ds = [.dK kvs] ∧ Q true (.lst (kvs.map fun kv => kD kv.1))
theorem DRk.keys {Av Av' : Addr → Prop} {H H' : Hp} : ∀ {vs : List (L2.Key × V)} {ds : List (L2.Key × D)}, DRk Av H vs ds → DRs Av' H' (vs.map fun kv => L2.kV kv.1) (ds.map fun kv => kD kv.1)
  | _, _, .nil => .nil
  | _, _, .cons (k := k) h r => .cons (by cases k with | inl i => exact .int i | inr x => exact .str x) (DRk.keys r)
theorem sc_listK : SC g (fun xs H Q => ∃ (a : Addr) (kvs : List (L2.Key × V)), xs = [.ref a] ∧ Rd H a (.dK kvs) ∧ ∀ p, H p = none → Q (.ref p) (upd H p (.lst (kvs.map fun kv => L2.kV kv.1)))) mListK := by
  intro Avs Av H ds vs Q Qd F r hm hk
  obtain ⟨kvs, rfl, hq⟩ := hm
  obtain ⟨v, rfl, rv⟩ := r.one
  obtain ⟨p, ws, rfl, e, rk⟩ := rv.dK
  refine ⟨p, ws, rfl, .inl e, fun q hq' => ?_⟩
  obtain ⟨k, r'⟩ := F.lst (DRk.keys (Av' := Avs) (H' := H) rk) hq'
  exact hk true _ _ _ k r' hq
/-- xs[::-1] -/
theorem we_revL {e : Expr} {w : WP} {k : Nat} {p1 p2 p3 : Pos} (h : WR g X e w) : WE g X (.Subscript e (.Slice none none (some (.UnaryOp .USub (.Constant (.int 1) k p1) p2)) p3) pos) (fun st Q => w st fun _ d => ∃ ds, d = .lst ds ∧ Q true (.lst ds.reverse)) := by
  obtain ⟨t, p, q⟩ := h
  refine ⟨_, pe_revL p, fun Av B gh H0 o σ st H Q Qd hg F R hw hk => ?_⟩
  refine q Av B gh H0 o σ st H _ _ hg F R hw fun fr d v H1 k1 r1 hd => ?_
  obtain ⟨ds, rfl, hd⟩ := hd
  obtain ⟨a, vs, rfl, e, rs⟩ := r1.lst
  refine ⟨a, vs, rfl, .inl (.inl e), fun u hu => ?_⟩
  obtain ⟨k2, r2⟩ := ((R.mono F k1).fit F).lst rs.rev hu
  exact hk true _ _ _ (k1.trans k2) (r2.back R.kp.2 k1) hd
/-- a, b, c = e1, e2, e3 with plain names; the last one may be a list of one's own -/
theorem ws_par3 {s : Stmt} {e1 e2 e3 : Expr} {w1 w2 w3 : WP} (k3 : Bool) (i j l : Nat) (h1 : WE g X e1 w1) (h2 : WE g X e2 w2) (h3 : WE g X e3 w3)
    (hp : ∀ t1 t2 t3, PE X e1 t1 → PE X e2 t2 → PE X e3 t3 → PS X s (tPar3 i j l (tCons t1 (tCons t2 (tCons t3 tNil))))) :
    WS g X s (fun De st => w1 st fun _ d1 => w2 st fun _ d2 => w3 st fun f3 d3 => put k3 l f3 d3 ((st.set i (.val d1)).set j (.val d2)) De.nx) := by
  obtain ⟨t1, p1, q1⟩ := h1
  obtain ⟨t2, p2, q2⟩ := h2
  obtain ⟨t3, p3, q3⟩ := h3
  refine ⟨_, hp t1 t2 t3 p1 p2 p3, fun Av B gh H0 o σ st H E De hg F R hw K => ?_⟩
  refine q1 Av B gh H0 o σ st H _ _ hg F R hw fun f1 d1 v1 H1 k1 r1 hw1 => ?_
  have R1 := R.mono F k1
  refine q2 Av B gh H0 o σ st H1 _ _ hg F R1 hw1 fun f2 d2 v2 H2 k2 r2 hw2 => ?_
  have R2 := R1.mono F k2
  refine q3 Av B gh H0 o σ st H2 _ _ hg F R2 hw2 fun f3 d3 v3 H3 k3' r3 hd => ?_
  have y1 := (r1.dr.mv (Mv.avo F k2))
  have RA := R2.setVal i y1
  have s1 : ∀ a, Avo Av B o (st.set i (.val d1)) a → Avo Av B o st a := by
    rintro a (h | ⟨m, es, e1, e2⟩)
    · exact .inl h
    · rcases set_own e1 with ⟨_, z, _⟩ | ⟨_, z⟩
      · cases z
      · exact .inr ⟨m, es, z, e2⟩
  have s2 : ∀ a, Avo Av B o ((st.set i (.val d1)).set j (.val d2)) a → Avo Av B o (st.set i (.val d1)) a := by
    rintro a (h | ⟨m, es, e1, e2⟩)
    · exact .inl h
    · rcases set_own e1 with ⟨_, z, _⟩ | ⟨_, z⟩
      · cases z
      · exact .inr ⟨m, es, z, e2⟩
  have RB := RA.setVal j (r2.dr.mv ⟨fun a u n e => ⟨fun z => n (s1 a z), e⟩⟩)
  refine ⟨v1, v2, v3, rfl, ?_⟩
  cases k3 with
  | false => exact K.nx o _ _ H3 ((RB.mono F k3').setVal l (r3.dr.mv ⟨fun a u n e => ⟨fun z => n (s1 a (s2 a z)), e⟩⟩)) hd
  | true =>
    obtain ⟨ds, rfl, rfl, hd⟩ := hd
    obtain ⟨p, vs, ds', rfl, e2, e3, e4, e5⟩ := r3.new rfl
    cases e2
    have RC := RB.addB F hg k3' e3 (nt_of e4 (fun _ z => nomatch z))
    obtain ⟨o', RD⟩ := RC.setOwn (fun z => (R2.bt p z).1 e3) (R2.kp.free hg e3) e4 (e5.mv ⟨fun a u n e => ⟨fun z => n (by
      rcases z with (z | z | z) | z
      · exact .inl (.inl (.inl z))
      · exact .inl (.inl (.inr z))
      · exact .inr z
      · exact .inl (s1 a (s2 a (.inr z)))), e⟩⟩) l
    exact K.nx o' _ _ H3 RD hd
/-- k in d as a test -/
theorem wt_din {i' o' : Expr} {wo wi : WP} (hu : X.A.units + 64 < cLine) (hi : WR g X i' wi) (ho : WR g X o' wo) (hm : behindInMarks .In o' = false := by rfl) : WT g X (.Compare i' [.In] [o'] pos) (fun st Q => wi st fun _ y => wo st fun _ x => mDIn false y x fun _ z => ∃ c, z = .bl c ∧ Q c) := by
  obtain ⟨t, p, q⟩ := hi
  obtain ⟨t2, p2, q2⟩ := ho
  refine ⟨_, pt_cmp (pc_din (by omega) p p2) hm, fun Av B gh H0 o σ st H Q Qd hg F R hw hk => ?_⟩
  refine q Av B gh H0 o σ st H _ _ hg F R hw fun fr d v H1 k1 r1 hw1 => ?_
  refine q2 Av B gh H0 o σ st H1 _ _ hg F (R.mono F k1) hw1 fun fr2 d2 v2 H2 k2 r2 hd => ?_
  have r1 := r1.mono (fun a h => Avo.ta F h) (fun a h => .inl (F.ta a h)) k2
  rcases hd with ⟨kvs, k, rfl, rfl, c, e, hq⟩ | ⟨kvs, k, rfl, rfl, c, e, hq⟩
  · obtain ⟨p, vs, rfl, e1, r2⟩ := r2.dT
    obtain ⟨b, rfl, eb⟩ := r1.keyD
    refine ⟨p, _, rfl, DGet.t e1 eb, c, ?_, hk c H2 (k1.trans k2) hq⟩
    rw [r2.ask]; injection e with e; rw [← e]; rfl
  · obtain ⟨p, vs, rfl, e1, r2⟩ := r2.dK
    cases r1.kD
    refine ⟨p, _, rfl, DGet.k e1, c, ?_, hk c H2 (k1.trans k2) hq⟩
    rw [r2.ask]; injection e with e; rw [← e]; rfl
theorem wt_dnotin {i' o' : Expr} {wo wi : WP} (hu : X.A.units + 64 < cLine) (hi : WR g X i' wi) (ho : WR g X o' wo) (hm : behindInMarks .NotIn o' = false := by rfl) : WT g X (.Compare i' [.NotIn] [o'] pos) (fun st Q => wi st fun _ y => wo st fun _ x => mDIn true y x fun _ z => ∃ c, z = .bl c ∧ Q c) := by
  obtain ⟨t, p, q⟩ := hi
  obtain ⟨t2, p2, q2⟩ := ho
  refine ⟨_, pt_cmp (pc_dnotin (by omega) p p2) hm, fun Av B gh H0 o σ st H Q Qd hg F R hw hk => ?_⟩
  refine q Av B gh H0 o σ st H _ _ hg F R hw fun fr d v H1 k1 r1 hw1 => ?_
  refine q2 Av B gh H0 o σ st H1 _ _ hg F (R.mono F k1) hw1 fun fr2 d2 v2 H2 k2 r2 hd => ?_
  have r1 := r1.mono (fun a h => Avo.ta F h) (fun a h => .inl (F.ta a h)) k2
  rcases hd with ⟨kvs, k, rfl, rfl, c, e, hq⟩ | ⟨kvs, k, rfl, rfl, c, e, hq⟩
  · obtain ⟨p, vs, rfl, e1, r2⟩ := r2.dT
    obtain ⟨b, rfl, eb⟩ := r1.keyD
    refine ⟨p, _, rfl, DGet.t e1 eb, c, ?_, hk c H2 (k1.trans k2) hq⟩
    rw [r2.ask]; injection e with e; rw [← e]; rfl
  · obtain ⟨p, vs, rfl, e1, r2⟩ := r2.dK
    cases r1.kD
    refine ⟨p, _, rfl, DGet.k e1, c, ?_, hk c H2 (k1.trans k2) hq⟩
    rw [r2.ask]; injection e with e; rw [← e]; rfl
/-- x is None, x is not None -/
def D.isN : D → Bool | .non => true | _ => false
def mIsN (neg : Bool) : Sem2 := fun x y Q => y = .non ∧ Q false (.bl (if neg then !x.isN else x.isN))
theorem isN_of {Avs Av : Addr → Prop} {H : Hp} {v : V} {x : D} (r : Rdv Avs Av H v x) : decide (v = .non) = x.isN := by
  rcases r with r | ⟨p, u, c, rfl, rfl, _⟩
  · cases r <;> simp [D.isN]
  · cases c <;> simp [D.isN, Ct.d]
theorem s2_isN : S2 g (fun x y H Q => y = .non ∧ Q (.bl (decide (x = .non))) H) (mIsN false) := by
  intro Avs Av H x y vx vy Q Qd F rx ry hm hk
  obtain ⟨rfl, q⟩ := hm
  refine ⟨ry.non, ?_⟩
  rw [isN_of rx]
  exact hk false _ _ H (Kp.refl F.gg) (.old (.bl _)) q
theorem s2_notN : S2 g (fun x y H Q => y = .non ∧ Q (.bl (!decide (x = .non))) H) (mIsN true) := by
  intro Avs Av H x y vx vy Q Qd F rx ry hm hk
  obtain ⟨rfl, q⟩ := hm
  refine ⟨ry.non, ?_⟩
  rw [isN_of rx]
  exact hk false _ _ H (Kp.refl F.gg) (.old (.bl _)) q
end
end DW
namespace DW
open PySem PySem.Spec PyProof.Rows L2
/-! ### list(d), the keys tuples -/
def mListT : SemC := fun ds Q => ∃ kvs : List (List L2.Key × D), ds = [.dT kvs] ∧ Q true (.lst (kvs.map fun kv => keyD kv.1))
theorem drs_kD {Av : Addr → Prop} {H : Hp} : ∀ k : List L2.Key, DRs Av H (k.map L2.kV) (k.map kD)
  | [] => .nil
  | .inl i :: k => .cons (.int i) (drs_kD k)
  | .inr s :: k => .cons (.str s) (drs_kD k)
theorem drs_keyT {Avs Av : Addr → Prop} {H : Hp} (tr : ∀ a, Avs a → Nt (H a)) : ∀ {vs : List (List L2.Key × V)} {ds : List (List L2.Key × D)} {bs : List Addr}, DRt Av H vs ds → IsKeys H vs bs → DRs Avs H (bs.map V.ref) (ds.map fun kv => keyD kv.1)
  | _, _, _, .nil, h => by cases h; exact .nil
  | _, _, _, .cons (k := k) r rs, h => by
    cases h with
    | cons e t => exact .cons (.tup (fun z => (tr _ z).2 _ e) e (drs_kD k)) (drs_keyT tr rs t)
section
variable {g : Gd} {X : Cx}
theorem sc_listT : SC g (fun xs H Q => ∃ d kvs, xs = [V.ref d] ∧ Rd H d (.dT kvs) ∧ ∀ p bs, H p = none → IsKeys H kvs bs → Q (.ref p) (upd H p (.lst (bs.map V.ref)))) mListT := by
  intro Avs Av H ds vs Q Qd F r hm hk
  obtain ⟨kvs, rfl, hq⟩ := hm
  obtain ⟨v, rfl, rv⟩ := r.one
  obtain ⟨p, ws, rfl, e, rk⟩ := rv.dT
  refine ⟨p, ws, rfl, .inl e, fun q bs hq' hb => ?_⟩
  obtain ⟨k, r'⟩ := F.lst (drs_keyT F.tr rk hb) hq'
  exact hk true _ _ _ k r' hq
end
/-! ### an object in the making -/
inductive GhF (gh : V → D → Prop) : List (Str × V) → List (Str × D) → Prop
  | nil : GhF gh [] []
  | cons {f : Str} {v : V} {d : D} {vs : List (Str × V)} {ds : List (Str × D)} : gh v d → GhF gh vs ds → GhF gh ((f, v) :: vs) ((f, d) :: ds)
theorem GhF.imp {gh gh' : V → D → Prop} (k : ∀ v d, gh v d → gh' v d) : ∀ {vs : List (Str × V)} {ds : List (Str × D)}, GhF gh vs ds → GhF gh' vs ds
  | _, _, .nil => .nil
  | _, _, .cons h r => .cons (k _ _ h) (r.imp k)
theorem GhF.drf {gh : V → D → Prop} {Av : Addr → Prop} {H : Hp} (k : ∀ v d, gh v d → DR Av H v d) : ∀ {vs : List (Str × V)} {ds : List (Str × D)}, GhF gh vs ds → DRf Av H vs ds
  | _, _, .nil => .nil
  | _, _, .cons h r => .cons (k _ _ h) (r.drf k)
theorem GhF.len {gh : V → D → Prop} : ∀ {vs : List (Str × V)} {ds : List (Str × D)}, GhF gh vs ds → vs.length = ds.length
  | _, _, .nil => rfl
  | _, _, .cons h r => by simp [r.len]
theorem GhF.put {gh : V → D → Prop} {f : Str} {v : V} {d : D} (q : gh v d) : ∀ {vs : List (Str × V)} {ds : List (Str × D)}, GhF gh vs ds → ds.lookup f = none → GhF gh (putF f v vs) (ds ++ [(f, d)])
  | _, _, .nil, _ => .cons q .nil
  | _, _, .cons (f := f') h r, e => by
    rw [List.lookup_cons] at e
    have ne : ¬ f' = f := by
      rintro rfl
      simp at e
    have e2 : (f == f') = false := by simpa using fun z => ne z.symm
    rw [e2] at e
    unfold putF
    rw [if_neg ne]
    exact .cons h (r.put q e)
theorem GhF.look {gh : V → D → Prop} {f : Str} {d : D} : ∀ {vs : List (Str × V)} {ds : List (Str × D)}, GhF gh vs ds → ds.lookup f = some d → ∃ v, vs.lookup f = some v ∧ gh v d
  | _, _, .nil, e => by cases e
  | _, _, .cons (f := f') h r, e => by
    rw [List.lookup_cons] at e ⊢
    cases z : f == f' with
    | true => rw [z] at e; cases e; exact ⟨_, rfl, h⟩
    | false => rw [z] at e; exact r.look e
/-- the guard while x is made: its fields are fv -/
def gI (g : Gd) (x C dx : Addr) (fv : List (Str × V)) : Gd where
  W := g.W
  T := fun a => g.T a ∨ a = x
  G := fun H => g.G H ∧ H x = some (.ins C dx fv)
  wt := fun a h => .inl (g.wt a h)
  st := fun H H' e h => ⟨g.st H H' (fun a ha => e a (.inl ha)) h.1, (e x (.inr rfl)).trans h.2⟩
  tr := fun H h a ha => ha.elim (fun z => g.tr H h.1 a z) fun z => by subst z; exact nt_of h.2 (fun _ z => nomatch z)
abbrev FQ := List (Str × D) → Prop
theorem PE.ex {ι : Type} {X : Cx} {e : Expr} {f : ι → TE} (h : ∀ i, PE X e (f i)) : PE X e (fun σ H Q => ∃ i, f i σ H Q) := ⟨fun pins s σ H Q I ⟨i, q⟩ => (h i).run pins s σ H Q I q⟩
theorem PS.ex {ι : Type} {X : Cx} {s : Stmt} {f : ι → TS} (h : ∀ i, PS X s (f i)) : PS X s (fun D σ H => ∃ i, f i D σ H) := ⟨fun pins s σ H D I ⟨i, q⟩ => (h i).run pins s σ H D I q⟩
/-- statements of an __init__: x the object, fs its fields so far -/
def WSI (g : Gd) (X : Cx) (x C dx : Addr) (ss : List Stmt) (w : FQ → List (Str × D) → Sx → Prop) : Prop := ∃ t, PSs X ss t ∧ ∀ fv Av gh H0 o σ st H (E : Ends) fs Qf, (gI g x C dx fv).G H0 → FrOk (gI g x C dx fv) Av H0 →
  Rel (gI g x C dx fv) Av (fun _ => False) gh H0 o σ st H → ¬ g.T x → GhF gh fv fs → w Qf fs st →
  (∀ fv' gh' H0' o σ st H fs, (∀ a, a ≠ x → H0' a = H0 a) → Rel (gI g x C dx fv') Av (fun _ => False) gh' H0' o σ st H → GhF gh' fv' fs → Qf fs → E.nx σ H) → t E σ H
/-- an expression that may read the fields so far -/
def WEI (g : Gd) (X : Cx) (x C dx : Addr) (e : Expr) (w : List (Str × D) → WP) : Prop := ∃ t, PE X e t ∧ ∀ fv Av gh H0 o σ st H fs Q Qd, (gI g x C dx fv).G H0 → FrOk (gI g x C dx fv) Av H0 →
  Rel (gI g x C dx fv) Av (fun _ => False) gh H0 o σ st H → GhF gh fv fs → w fs st Qd →
  (∀ fr d v H', Kp (gI g x C dx fv) H H' → Res (Avo Av (fun _ => False) o st) H v fr d H' → Qd fr d → Q v H') → t σ H Q
def WAI (g : Gd) (X : Cx) (x C dx : Addr) (es : List Expr) (w : List (Str × D) → WPA) : Prop := ∃ t, PA X es t ∧ ∀ fv Av gh H0 o σ st H fs Q Qd, (gI g x C dx fv).G H0 → FrOk (gI g x C dx fv) Av H0 →
  Rel (gI g x C dx fv) Av (fun _ => False) gh H0 o σ st H → GhF gh fv fs → w fs st Qd →
  (∀ ds vs H', Kp (gI g x C dx fv) H H' → DRs (Avo Av (fun _ => False) o st) H' vs ds → Qd ds → Q vs H') → t σ H Q
section
variable {g : Gd} {X : Cx} {x C dx : Addr} {s : Stmt} {rest : List Stmt} {w : WPS} {we : WP} {wa : WPA} {u : FQ → List (Str × D) → Sx → Prop} {e self : Expr} {es : List Expr} {f : Str} {pos pos' : Pos}
theorem wei_of (h : ∀ fv, WE (gI g x C dx fv) X e we) : WEI g X x C dx e (fun _ => we) :=
  ⟨_, PE.ex fun fv => (h fv).choose_spec.1, fun fv Av gh H0 o σ st H fs Q Qd hg F R hf hw hk => ⟨fv, (h fv).choose_spec.2 Av _ gh H0 o σ st H Q Qd hg F R hw hk⟩⟩
/-- self.f, a field that is there -/
theorem wei_fld (hs : PE X self (tVar 0)) (c : Cls X.K C) (n : NoAttr X.K C f) (hb : attributeBase self f X.env (eval self X.env) = eval self X.env := by rfl) :
    WEI g X x C dx (.Attribute self f pos) (fun fs st Q => st[0]? = some (.val (.rf x)) ∧ ∃ d, fs.lookup f = some d ∧ Q false d) := by
  refine ⟨_, pe_fld hs hb, fun fv Av gh H0 o σ st H fs Q Qd hg F R hf hw hk => ?_⟩
  obtain ⟨h0, d, hl, hq⟩ := hw
  obtain ⟨v, e1, r⟩ := R.val 0 _ h0
  cases r
  obtain ⟨v, lv, gv⟩ := hf.look hl
  exact ⟨.ref x, e1, x, C, dx, fv, v, rfl, R.kp.2.2, c, n, lv, hk false d v H (Kp.refl R.kp.2) (.old (R.gho v d gv)) hq⟩
theorem wai_nil : WAI g X x C dx [] (fun _ _ Q => Q []) := ⟨_, pa_nil, fun fv Av gh H0 o σ st H fs Q Qd hg F R hf hw hk => hk [] [] H (Kp.refl R.kp.2) .nil hw⟩
theorem wai_cons {wi : List (Str × D) → WP} {wr : List (Str × D) → WPA} (h : WEI g X x C dx e wi) (hr : WAI g X x C dx es wr) (hs : starEach (e :: es) X.env = (false, eval e X.env) :: starEach es X.env := by rfl) :
    WAI g X x C dx (e :: es) (fun fs st Q => wi fs st fun _ d => wr fs st fun ds => Q (d :: ds)) := by
  obtain ⟨t, p, q⟩ := h
  obtain ⟨t2, p2, q2⟩ := hr
  refine ⟨_, pa_cons p p2 hs, fun fv Av gh H0 o σ st H fs Q Qd hg F R hf hw hk => ?_⟩
  refine q fv Av gh H0 o σ st H fs _ _ hg F R hf hw fun fr d v H1 k1 r1 hw1 => ?_
  refine q2 fv Av gh H0 o σ st H1 fs _ _ hg F (R.mono F k1) hf hw1 fun ds vs H2 k2 r2 hd => ?_
  exact hk (d :: ds) (v :: vs) H2 (k1.trans k2) (.cons (r1.dr.mv (Mv.avo F k2)) r2) hd
theorem wei_call {n : Nat} {SP : List D → RQ → Prop} {wi : List (Str × D) → WPA} (ha : WAI g X x C dx es wi) (hc : ∀ fv t, PA X es t → PE X e (tCall (spOf (gI g x C dx fv) n SP) [] E0 t)) :
    WEI g X x C dx e (fun fs st Q => wi fs st fun ds => ds.length = n ∧ SP ds Q) := by
  obtain ⟨t, p, q⟩ := ha
  refine ⟨_, PE.ex fun fv => hc fv t p, fun fv Av gh H0 o σ st H fs Q Qd hg F R hf hw hk => ⟨fv, ?_⟩⟩
  refine q fv Av gh H0 o σ st H fs _ _ hg F R hf hw fun ds vs H1 k1 r1 hd => ?_
  refine ⟨by simpa [r1.length] using hd.1, Avo Av (fun _ => False) o st, ds, Qd, k1.2, (R.mono F k1).frok F, by simpa using r1, hd.2, fun fr d v H' k r hq => ?_⟩
  exact hk fr d v H' (k1.trans k) (r.back R.kp.2 k1) hq
theorem wsi_nil : WSI g X x C dx [] (fun Qf fs _ => Qf fs) := ⟨_, pss_nil, fun fv Av gh H0 o σ st H E fs Qf hg F R nT hf hw K => K fv gh H0 o σ st H fs (fun _ _ => rfl) R hf hw⟩
theorem wsi_cons (h : ∀ fv, WS (gI g x C dx fv) X s w) (hr : WSI g X x C dx rest u) : WSI g X x C dx (s :: rest) (fun Qf fs st => w ⟨fun st' => u Qf fs st', fun _ _ => False, fun _ => False, fun _ => False⟩ st) := by
  obtain ⟨t2, p2, q2⟩ := hr
  refine ⟨_, pss_cons (PS.ex fun fv => (h fv).choose_spec.1) p2, fun fv Av gh H0 o σ st H E fs Qf hg F R nT hf hw K => ⟨fv, ?_⟩⟩
  exact (h fv).choose_spec.2 Av _ gh H0 o σ st H _ _ hg F R hw ⟨fun o σ st' H' R' h => q2 fv Av gh H0 o σ st' H' E fs Qf hg F R' nT hf h K, fun _ _ _ _ _ _ z => z.elim, fun _ _ _ _ _ z => z.elim, fun _ _ _ _ _ z => z.elim⟩
/-- self.f = e, a new field -/
theorem wsi_fld {wi : List (Str × D) → WP} (h : WEI g X x C dx e wi) (hp : PE X self (tVar 0)) (c : Cls X.K C) (n : NoAttr X.K C f) (hr : WSI g X x C dx rest u)
    (hs : swapsWith e (some (.Attribute self f pos')) pos.line X.env = pure false := by rfl) :
    WSI g X x C dx (.Assign [.Attribute self f pos'] e pos :: rest) (fun Qf fs st => st[0]? = some (.val (.rf x)) ∧ fs.length < 1000 ∧ fs.lookup f = none ∧ wi fs st fun _ d => u Qf (fs ++ [(f, d)]) st) := by
  obtain ⟨t, p, q⟩ := h
  obtain ⟨t2, p2, q2⟩ := hr
  refine ⟨_, pss_cons (ps_fld hp p hs) p2, fun fv Av gh H0 o σ st H E fs Qf hg F R nT hf hw K => ?_⟩
  obtain ⟨h0, hl, hn, hw⟩ := hw
  refine q fv Av gh H0 o σ st H fs _ _ hg F R hf hw fun fr d v H1 k1 r1 hd => ?_
  have R1 := R.mono F k1
  obtain ⟨vx, e1, rx⟩ := R1.val 0 _ h0
  cases rx
  have ex : H1 x = some (.ins C dx fv) := R1.kp.2.2
  refine ⟨.ref x, e1, x, C, dx, fv, rfl, ex, c, n, by rw [hf.len]; exact hl, ?_⟩
  have ax : Av x := F.ta x (.inr rfl)
  let fv' := putF f v fv
  let H2 := upd H1 x (.ins C dx fv')
  let H0' := upd H0 x (.ins C dx fv')
  let gh' := fun (a : V) (b : D) => gh a b ∨ (a = v ∧ b = d)
  have m : Mv (Avo Av (fun _ => False) o st) (Avo Av (fun _ => False) o st) H1 H2 := ⟨fun a y na e => ⟨na, by
    show upd H1 x _ a = some y
    rw [upd_ne fun z : a = x => na (.inl (.inl (z ▸ ax)))]; exact e⟩⟩
  have gx : ∀ H : Hp, g.G H → g.G (upd H x (.ins C dx fv')) := fun H z => g.st H _ (fun a ha => upd_ne fun z : a = x => nT (z ▸ ha)) z
  have k2 : Kp (gI g x C dx fv') H0' H2 := by
    refine ⟨fun a y e nw => ?_, gx _ R1.kp.2.1, upd_same⟩
    by_cases z : a = x
    · subst z
      have e : upd H0 a (.ins C dx fv') a = some y := e
      rw [upd_same] at e
      show upd H1 a _ a = some y
      rw [upd_same]; exact e
    · have e : upd H0 x (.ins C dx fv') a = some y := e
      rw [upd_ne z] at e
      show upd H1 x _ a = some y
      rw [upd_ne z]; exact R1.kp.1 a y e nw
  have nox : ∀ (i : Nat) (cc : Ct), st[i]? = some (.ow cc) → o i ≠ x := fun i cc hi z => by
    obtain ⟨_, _, _, y, ey, ry⟩ := R1.ow i cc hi
    rw [z, ex] at ey
    cases ey
    exact ry.mt
  have R2 : Rel (gI g x C dx fv') Av (fun _ => False) gh' H0' o σ st H2 := by
    refine ⟨R1.len, k2, fun i d e => ?_, fun i cc e => ?_, R1.inj, fun a h => h.elim, fun a b h => ?_⟩
    · obtain ⟨v, e1, r⟩ := R1.val i d e
      exact ⟨v, e1, r.mv m⟩
    · obtain ⟨e1, e2, nb, y, e3, r⟩ := R1.ow i cc e
      refine ⟨e1, ?_, nb, y, ?_, r.mv m⟩
      · show upd H0 x _ (o i) = none
        rw [upd_ne (nox i cc e)]; exact e2
      · show upd H1 x _ (o i) = some y
        rw [upd_ne (nox i cc e)]; exact e3
    · rcases h with h | ⟨rfl, rfl⟩
      · exact (R1.gho a b h).mv m
      · exact r1.dr.mv m
  have F2 : FrOk (gI g x C dx fv') Av H0' := ⟨F.ta, fun a ha => by
    by_cases z : a = x
    · subst z; exact nt_of (show H0' a = some (.ins C dx fv') from upd_same) (fun _ z => nomatch z)
    · have : H0' a = H0 a := upd_ne z
      rw [this]; exact F.tr a ha⟩
  refine q2 fv' Av gh' H0' o σ st H2 E (fs ++ [(f, d)]) Qf ⟨gx _ hg.1, upd_same⟩ F2 R2 nT ((hf.imp fun _ _ => .inl).put (.inr ⟨rfl, rfl⟩) hn) hd fun fv2 gh2 H02 o2 σ2 st2 H3 fs2 ea R3 hf3 hq => ?_
  exact K fv2 gh2 H02 o2 σ2 st2 H3 fs2 (fun a na => (ea a na).trans (upd_ne na)) R3 hf3 hq
end
/-- what an __init__ promises: M tells of the arguments what the fields are -/
def spIni (g : Gd) (C : Addr) (k : Nat) (M : List D → FQ → Prop) : Sp := fun vs H Q _ => ∃ (x dx : Addr) (us : List V) (ds : List D) (Av : Addr → Prop) (Qf : FQ), vs = .ref x :: us ∧ us.length = k ∧ H x = some (.ins C dx []) ∧ Av x ∧ ¬ g.T x ∧ g.G H ∧ FrOk g Av H ∧ DRs Av H us ds ∧ M ds Qf ∧
  ∀ H' fv fs, (∀ a o, H a = some o → a ≠ x → ¬ g.W a → H' a = some o) → g.G H' → H' x = some (.ins C dx fv) → DRf Av H' fv fs → Qf fs → Q .non H'
section
variable {g : Gd} {P : Program} {w : World} {K : PySem.W.Frag} {mg : Str → Option Value} {base : Heap} {xn qual : Str} {st : Stmt} {f C : Addr} {fd : FuncData} {N ps : List Str} {lev k : Nat} {M : List D → FQ → Prop} {wb : Addr → FQ → List (Str × D) → Sx → Prop}
theorem ini_ok (F : Fun K xn qual st f fd) (S : FnScope N ps (defScope st)) (hn : ps.length = k + 1)
    (body : ∀ (x dx : Addr) (cdv : Value) (A : Around) (fr : List Env) (s : Shared) (H : Hp) (E : XK), Room lev (A.deeper (envOfC qual (defScope st) s.heap.objs.size f cdv)) →
      WSI g (cxOf CX0 P w K mg base N qual (defScope st) f cdv A fr s H E).nox x C dx (defBody st) (wb x))
    (hs : ∀ x ds Qf, ds.length = k → M ds Qf → wb x Qf [] (startS N (.rf x :: ds))) : FnOk P w K mg base CX0 (lev + 1) f fd ps (spIni g C k M) := by
  refine F.ok S (fun vs H Q E h => ?_) fun cdv A fr s H vs Q E hr h => ?_
  · obtain ⟨x, dx, us, ds, Av, Qf, rfl, hl, _⟩ := h
    rw [List.length_cons, hl, hn]
  · obtain ⟨x, dx, us, ds, Av, Qf, rfl, hl, hx, ax, nT, hg, Fr, r, hM, hk⟩ := h
    obtain ⟨t, p, q⟩ := body x dx cdv A fr s H E hr
    have hgI : (gI g x C dx []).G H := ⟨hg, hx⟩
    have FI : FrOk (gI g x C dx []) Av H := ⟨fun a h => h.elim (Fr.ta a) fun z => z ▸ ax, Fr.tr⟩
    refine ⟨t, p, q [] Av (fun _ _ => False) H _ _ _ H _ [] Qf hgI FI (start_rel hgI (.cons (.rf x) r)) nT .nil (hs x ds Qf (by rw [← r.length]; exact hl) hM) fun fv' gh' H0' o σ st H' fs ea R hf hq => ?_⟩
    refine hk H' fv' fs (fun a y e na nw => R.kp.1 a y ((ea a na).trans e) nw) R.kp.2.1 R.kp.2.2 (hf.drf fun v d h => (R.gho v d h).mv ⟨fun a u n e => ⟨fun z => n (.inl (.inl z)), e⟩⟩) hq
end
section
variable {g : Gd} {X : Cx} {e : Expr} {es : List Expr} {wa : WPA} {C : Addr} {k : Nat} {M : List D → FQ → Prop}
theorem ini_go {Av B : Addr → Prop} {gh : V → D → Prop} {H0 H1 : Hp} {o : Nat → Addr} {σ : L2.St} {st : Sx} {vs : List V} {ds : List D} {Q : VK} {Qd : RQ} (F : FrOk g Av H0) (R : Rel g Av B gh H0 o σ st H1) (r : DRs (Avo Av B o st) H1 vs ds)
    (hd : ds.length = k ∧ M ds fun fs => Qd false (.obj C fs)) (hk : ∀ fr d v H', Kp g H1 H' → Res (Avo Av B o st) H1 v fr d H' → Qd fr d → Q v H') {x dx : Addr} (hx : H1 x = none) (hdx : H1 dx = none) (hne : dx ≠ x) :
    spIni g C k M (.ref x :: (vs ++ [])) (upd (upd H1 dx (.own x)) x (.ins C dx [])) (fun v H2 => v = .non ∧ Q (.ref x) H2) E0 := by
  let A2 := Avo Av B o st
  let H2 := upd (upd H1 dx (.own x)) x (.ins C dx [])
  have nx : ¬ A2 x := fun z => R.tracked F z hx
  have ndx : ¬ A2 dx := fun z => R.tracked F z hdx
  have keep : ∀ a y, H1 a = some y → H2 a = some y := fun a y e => by
    show upd (upd H1 dx (.own x)) x (.ins C dx []) a = some y
    rw [upd_ne (ne_of_none e hx), upd_ne (ne_of_none e hdx)]; exact e
  have ta : ∀ a, g.T a → A2 a := fun a h => Avo.ta F h
  have g2 : g.G H2 := g.st H1 H2 (fun a ha => by
    show upd (upd H1 dx (.own x)) x (.ins C dx []) a = H1 a
    rw [upd_ne fun z : a = x => nx (z ▸ ta a ha), upd_ne fun z : a = dx => ndx (z ▸ ta a ha)]) R.kp.2
  have m2 : Mv A2 (fun a => A2 a ∨ a = x) H1 H2 := ⟨fun a y n e => ⟨fun z => z.elim n (ne_of_none e hx), keep a y e⟩⟩
  have F2 : FrOk g (fun a => A2 a ∨ a = x) H2 := ⟨fun a h => .inl (ta a h), fun a h => by
    rcases h with h | rfl
    · have nt : Nt (H1 a) := R.tracked F h
      cases q : H1 a with
      | none => exact absurd q nt.1
      | some y => rw [keep a y q, ← q]; exact nt
    · exact nt_of (show H2 a = some (.ins C dx []) from upd_same) (fun _ z => nomatch z)⟩
  refine ⟨x, dx, vs, ds, fun a => A2 a ∨ a = x, _, by rw [List.append_nil], by rw [r.length]; exact hd.1, upd_same, .inr rfl, fun z => nx (ta x z), g2, F2, r.mv m2, hd.2, fun H' fv fs kp hg' hx' rf hq => ?_⟩
  refine ⟨rfl, hk false _ _ H' ⟨fun a y e nw => kp a y (keep a y e) (ne_of_none e hx) nw, hg'⟩ (.old (.obj nx hx' (DRf.mv ⟨fun a u n e => ⟨fun z => n (.inl z), e⟩⟩ rf))) hq⟩
theorem make_I (ha : WA g X es wa) (hc : ∀ t, PA X es t → PE X e (tMake C (spIni g C k M) [] E0 t)) : WE g X e (fun st Q => wa st fun ds => ds.length = k ∧ M ds fun fs => Q false (.obj C fs)) := by
  obtain ⟨t, p, q⟩ := ha
  refine ⟨_, hc t p, fun Av B gh H0 o σ st H Q Qd hg F R hw hk => ?_⟩
  refine q Av B gh H0 o σ st H _ _ hg F R hw fun ds vs H1 k1 r1 hd x dx hx hdx hne => ?_
  exact ini_go F (R.mono F k1) r1 hd (fun fr d v H' k r hq => hk fr d v H' (k1.trans k) (r.back R.kp.2 k1) hq) hx hdx hne
/-- .. by a local name for the class -/
def tMakeL (i : Nat) (C : Addr) (sp : Sp) (t : TA) : TE := fun σ H Q => σ[i]? = some (some (.ref C)) ∧ tMake C sp [] E0 t σ H Q
theorem pe_makeL {f : Addr} {fd : FuncData} {ps : List Str} {lv i : Nat} {sp : Sp} {nm : Str} {p pos : Pos} {e1 : Expr} {t : TA} (Mk' : Mk X.K C f) (F : FnOk X.prog X.w X.K X.mg X.base CX0 lv f fd ps sp) (hr : Room (lv + 1) X.A) (hN : X.N[i]? = some nm) (hv : Vis X.env.scope nm)
    (hb : Binds X.K fd ps []) (ha : PA X (e1 :: es) t) (hdb : (nm == ("__debug__" : Str)) = false := by decide) (hcd : (nm == ("__classdict__" : Str)) = false := by decide)
    (he : starEach (e1 :: es) X.env = (false, eval e1 X.env) :: starEach es X.env := by rfl) (hpl : (backTo pos (starEach es X.env)).any (·.1) = false := by rfl) : PE X (.Call (.Name nm p) (e1 :: es) [] pos) (tMakeL i C sp t) := by
  constructor
  intro pins s σ H Q I h
  refine wpAny_Call_Name_kw (thn ((pe_var (pos := p) hN hv hdb hcd).run pins s σ H (fun v H1 => v = .ref C ∧ H1 = H) I ⟨.ref C, h.1, rfl, rfl⟩) fun u s1 ⟨v, H1, I1, r1, q1⟩ => ?_)
  obtain ⟨rfl, rfl⟩ := q1
  cases r1
  refine PySem.W.callWith_K (h₀ := X.base) I.ok.mod.kin Mk'.kp (thn (ha.run pos pins s1 σ _ _ I1 h.2) fun us s2 ⟨vs, H2, I2, r, q⟩ => ⟨I2.kIn, ?_⟩) he hpl
  exact run_make Mk' F hr hb .nil pass0 I2 r q
theorem make_L (i : Nat) (ha : WA g X es wa) (hc : ∀ t, PA X es t → PE X e (tMakeL i C (spIni g C k M) t)) : WE g X e (fun st Q => st[i]? = some (.val (.rf C)) ∧ wa st fun ds => ds.length = k ∧ M ds fun fs => Q false (.obj C fs)) := by
  obtain ⟨t, p, q⟩ := ha
  refine ⟨_, hc t p, fun Av B gh H0 o σ st H Q Qd hg F R hw hk => ?_⟩
  obtain ⟨h0, hw⟩ := hw
  obtain ⟨v, e1, rv⟩ := R.val i _ h0
  cases rv
  refine ⟨e1, ?_⟩
  refine q Av B gh H0 o σ st H _ _ hg F R hw fun ds vs H1 k1 r1 hd x dx hx hdx hne => ?_
  exact ini_go F (R.mono F k1) r1 hd (fun fr d v H' k r hq => hk fr d v H' (k1.trans k) (r.back R.kp.2 k1) hq) hx hdx hne
/-- C.m(..), m a classmethod -/
theorem we_cmeth {n : Nat} {SP : List D → RQ → Prop} {ex : Expr} (ha : WA g X es wa) (hc : ∀ t, PA X es t → PE X ex (ClX.tCMeth C (spOf g n SP) E0 (tC (.ref C)) t)) :
    WE g X ex (fun st Q => wa st fun ds => ds.length + 1 = n ∧ SP (.rf C :: ds) Q) := by
  obtain ⟨t, p, q⟩ := ha
  refine ⟨_, hc t p, fun Av B gh H0 o σ st H Q Qd hg F R hw hk => ⟨rfl, ?_⟩⟩
  refine q Av B gh H0 o σ st H _ _ hg F R hw fun ds vs H1 k1 r1 hd => ?_
  refine ⟨by rw [List.length_cons, r1.length]; exact hd.1, Avo Av B o st, .rf C :: ds, Qd, k1.2, (R.mono F k1).frok F, .cons (.rf C) r1, hd.2, fun fr d v H' k r hq => ?_⟩
  exact hk fr d v H' (k1.trans k) (r.back R.kp.2 k1) hq
end
end DW
namespace DW
open PySem PySem.Spec PyProof.Rows L2
/-! ### a comprehension of two clauses -/
def nown (js : List Nat) (s : Sx) : Prop := ∀ j ∈ js, ∀ c : Ct, s[j]? ≠ some (Sl.ow c)
def wLc2 (bn : WPG) (tt : WPT) (wi1 : WPI) (bn1 : WPG) (tt1 : WPT) (te : WP) (js1 : List Nat) (s0 : Sx) : List D → (List D → Prop) → Prop
  | [], Q => Q []
  | d :: ds, Q => bn d s0 fun s => tt s fun c => if c = true then wi1 s fun es => es.length ≤ 1000 ∧ nown js1 s ∧ wLc bn1 tt1 te (wipeS s js1) es fun ys => wLc2 bn tt wi1 bn1 tt1 te js1 s0 ds fun zs => Q (ys ++ zs)
      else wLc2 bn tt wi1 bn1 tt1 te js1 s0 ds Q
section
variable {g : Gd} {X : Cx} {elt tg iter tg1 iter1 : Expr} {ifs ifs1 : List Expr} {scope : Scope} {own : List (Str × Nat)} {pos : Pos} {wi wi1 : WPI} {bn bn1 : WPG} {tt tt1 : WPT} {te : WP}
theorem lc2_snd {ti ti1 : TI} {tb tb1 : TG} {tT tT1 : TT} {tE : TE} (js js1 : List Nat) (qi : SndI g wi ti) (qb : SndG g js bn tb) (qt : SndT g tt tT) (qi1 : SndI g wi1 ti1) (qb1 : SndG g js1 bn1 tb1) (qt1 : SndT g tt1 tT1) (qe : SndE g te tE) :
    SndE g (fun st Q => wi st fun ds => ds.length ≤ 1000 ∧ wLc2 bn tt wi1 bn1 tt1 te js1 (wipeS st js) ds fun ys => Q true (.lst ys)) (tLc2 ti tb tT ti1 tb1 tT1 tE js js1) := by
  intro Av B gh H0 o σ st H Q Qd hg F R hw hk
  refine qi Av B gh H0 o σ st H _ _ hg F R hw fun ds Gh J H1 k1 r1 wk hd => ?_
  intro p hp
  obtain ⟨hsz, hd⟩ := hd
  let gh' := fun (v : V) (d : DW.D) => gh v d ∨ Gh v d
  have R1 : Rel g Av B gh' H0 o σ st H1 := by
    have R1 := R.mono F k1
    exact ⟨R1.len, R1.kp, R1.val, R1.ow, R1.inj, R1.bt, fun v d h => h.elim (R1.gho v d) fun h => r1 v d h⟩
  have kp1 : Kp g H1 (upd H1 p (.lst [])) := Kp.new R1.kp.2 hp
  have h0p : H0 p = none := R1.kp.free hg hp
  have R2 : Rel g Av (fun a => B a ∨ a = p) gh' H0 o σ st (upd H1 p (.lst [])) := R1.addB F hg kp1 hp (nt_of upd_same (fun _ z => nomatch z))
  let Ab := Avo Av (Blk B o st js p) o (wipeS st js)
  have bp : Blk B o st js p p := .inl (.inr rfl)
  have abp : Ab p := .inl (.inr bp)
  have ta : ∀ a, g.T a → Ab a := fun a h => Avo.ta F h
  have noown : ∀ (s : Sx) (ks : List Nat), ∀ j ∈ ks, ∀ es : Ct, (wipeS s ks)[j]? ≠ some (Sl.ow es) := fun s ks j hj es h => by
    rcases wipeS_get h with ⟨_, z⟩ | ⟨nj, _⟩
    · cases z
    · exact nj hj
  have updm : ∀ (H : Hp) (u : HO), Mv Ab Ab H (upd H p u) := fun H u => ⟨fun a x n e => ⟨n, by rw [upd_ne fun (z : a = p) => n (z ▸ abp)]; exact e⟩⟩
  let W := fun (i m : Nat) (H : Hp) => i ≤ ds.length ∧ m = ds.length - i ∧ ∃ acc ys, H p = some (.lst acc) ∧ acc.length ≤ i * 1000 ∧ Rel g Av (fun a => B a ∨ a = p) gh' H0 o σ st H ∧ DRs Ab H acc ys ∧
    (∀ a x, H1 a = some x → ¬ g.W a → H a = some x) ∧ wLc2 bn tt wi1 bn1 tt1 te js1 (wipeS st js) (ds.drop i) fun zs => Qd true (.lst (ys ++ zs))
  refine ⟨W, ⟨ds.length, Nat.zero_le _, rfl, [], [], upd_same, Nat.zero_le _, R2, .nil, fun a x e _ => by rw [upd_ne (ne_of_none e hp)]; exact e, by simpa using hd⟩, fun i m H2 hW => ?_⟩
  obtain ⟨hi, rfl, acc, ys, hacc, hla, R3, dacc, keep, hf⟩ := hW
  by_cases hl : i < ds.length
  · have r0 := wk _ _ H2 ((R3.blk F js).fit F) (fun v d h => (R3.blk F js).gho v d (.inr h))
    obtain ⟨go, yl⟩ := r0.2 i _ (List.getElem?_eq_getElem hl)
    rw [List.drop_eq_getElem_cons hl] at hf
    refine .inr ⟨go, fun H' => W (i + 1) (ds.length - (i + 1)) H', fun H' h => ⟨_, by omega, h⟩, fun x H3 y => ?_⟩
    obtain ⟨k3, rx⟩ := yl x H3 y
    have R4 := (R3.mono F k3).blk F js
    refine qb Av _ gh' H0 o _ _ H3 x _ _ _ hg F R4 rx hf fun σ5 st5 R5 hwp hav hb5 => ⟨hwp.trans (wipe_twice js σ), ?_⟩
    have hav := hav (noown st js)
    refine qt Av _ gh' H0 o σ5 st5 H3 _ _ hg F R5 hb5 fun b H4 k4 hc => ?_
    have k34 := k3.trans k4
    have stay : ∀ {H5 : Hp}, Kp g H2 H5 → H5 p = some (.lst acc) := fun k => k.1 p _ hacc fun w => (R3.bt p (.inr rfl)).2 (g.wt _ w)
    cases b with
    | false =>
      simp only [Bool.false_eq_true, if_false] at hc ⊢
      exact ⟨hl, rfl, acc, ys, stay k34, by omega, R3.mono F k34, dacc.mv (Mv.kp ta k34), fun a x e n => k34.1 a x (keep a x e n) n, hc⟩
    | true =>
      simp only [if_true] at hc ⊢
      refine qi1 Av _ gh' H0 o σ5 st5 H4 _ _ hg F (R5.mono F k4) hc fun es Gh1 J1 H5 k5 r5 wk1 hd1 => ?_
      obtain ⟨hes, hno, hd1⟩ := hd1
      have k35 := k34.trans k5
      let gh2 := fun (v : V) (d : DW.D) => gh' v d ∨ Gh1 v d
      have R5' : Rel g Av (Blk B o st js p) gh2 H0 o σ5 st5 H5 := by
        have R5 := (R5.mono F k4).mono F k5
        exact ⟨R5.len, R5.kp, R5.val, R5.ow, R5.inj, R5.bt, fun v d h => h.elim (R5.gho v d) fun h => r5 v d h⟩
      let W1 := fun (j k : Nat) (H : Hp) => j ≤ es.length ∧ k = es.length - j ∧ ∃ acc2 ys2, H p = some (.lst acc2) ∧ acc2.length ≤ i * 1000 + j ∧ Rel g Av (fun a => B a ∨ a = p) gh' H0 o σ st H ∧ Rel g Av (Blk B o st js p) gh2 H0 o σ5 st5 H ∧
        DRs Ab H acc2 (ys ++ ys2) ∧ (∀ a x, H1 a = some x → ¬ g.W a → H a = some x) ∧
        wLc bn1 tt1 te (wipeS st5 js1) (es.drop j) fun zs' => wLc2 bn tt wi1 bn1 tt1 te js1 (wipeS st js) (ds.drop (i + 1)) fun zs => Qd true (.lst (ys ++ (ys2 ++ zs' ++ zs)))
      refine ⟨W1, ⟨es.length, Nat.zero_le _, rfl, acc, [], stay k35, by omega, R3.mono F k35, R5', by rw [List.append_nil]; exact dacc.mv (Mv.kp ta k35), fun a x e n => k35.1 a x (keep a x e n) n, by simpa using hd1⟩, fun j k H6 hW1 => ?_⟩
      obtain ⟨hj, rfl, acc2, ys2, hacc2, hla2, R6, R7, dacc2, keep2, hf2⟩ := hW1
      have r01 := wk1 _ _ H6 (R7.fit F) (fun v d h => R7.gho v d (.inr h))
      by_cases hl2 : j < es.length
      · obtain ⟨go1, yl1⟩ := r01.2 j _ (List.getElem?_eq_getElem hl2)
        rw [List.drop_eq_getElem_cons hl2] at hf2
        refine .inr ⟨go1, fun H' => W1 (j + 1) (es.length - (j + 1)) H', fun H' h => ⟨_, by omega, h⟩, fun x1 H7 y1 => ?_⟩
        obtain ⟨k7, rx1⟩ := yl1 x1 H7 y1
        have R8 := (R7.mono F k7).wipe js1
        have sub1 : ∀ a, Avo Av (Blk B o st js p) o (wipeS st5 js1) a → Avo Av (Blk B o st js p) o st5 a := by
          rintro a (z | ⟨n, c, e1, e2⟩)
          · exact .inl z
          · rcases wipeS_get e1 with ⟨_, z⟩ | ⟨_, z⟩
            · cases z
            · exact .inr ⟨n, c, z, e2⟩
        have sub2 : ∀ a, Avo Av (Blk B o st js p) o st5 a → Avo Av (Blk B o st js p) o (wipeS st5 js1) a := by
          rintro a (z | ⟨n, c, e1, e2⟩)
          · exact .inl z
          · by_cases hn : n ∈ js1
            · exact absurd e1 (hno n hn c)
            · exact .inr ⟨n, c, by rw [wipeS_keep hn]; exact e1, e2⟩
        refine qb1 Av _ gh2 H0 o _ _ H7 x1 _ _ _ hg F R8 (rx1.mv ⟨fun a u n e => ⟨fun z => n (sub1 a z), e⟩⟩) hf2 fun σ9 st9 R9 hwp1 hav1 hb9 => ⟨hwp1.trans (wipe_twice js1 σ5), ?_⟩
        have hav1 := hav1 (noown st5 js1)
        refine qt1 Av _ gh2 H0 o σ9 st9 H7 _ _ hg F R9 hb9 fun b1 H8 k8 hc1 => ?_
        have k78 := k7.trans k8
        have stay2 : ∀ {H9 : Hp}, Kp g H6 H9 → H9 p = some (.lst acc2) := fun k => k.1 p _ hacc2 fun w => (R6.bt p (.inr rfl)).2 (g.wt _ w)
        cases b1 with
        | false =>
          simp only [Bool.false_eq_true, if_false] at hc1 ⊢
          exact ⟨hl2, rfl, acc2, ys2, stay2 k78, by omega, R6.mono F k78, R7.mono F k78, dacc2.mv (Mv.kp ta k78), fun a x e n => k78.1 a x (keep2 a x e n) n, hc1⟩
        | true =>
          simp only [if_true] at hc1 ⊢
          refine qe Av _ gh2 H0 o σ9 st9 H8 _ _ hg F (R9.mono F k8) hc1 fun fr d v H9 k9 r9 hz => ?_
          have k79 := k78.trans k9
          have lt : acc2.length < sizeLine := by
            have h1 : i * 1000 + j < 1000 * 1000 := by
              have := Nat.mul_le_mul_right 1000 (show i + 1 ≤ 1000 by omega)
              omega
            rw [sizeLine_eq]; omega
          refine ⟨acc2, stay2 k79, lt, hl2, rfl, acc2 ++ [v], ys2 ++ [d], upd_same, by simp; omega, (R6.mono F k79).updB (.inr rfl) h0p (fun _ z => nomatch z), (R7.mono F k79).updB bp h0p (fun _ z => nomatch z), ?_, fun a x e n => by rw [upd_ne (ne_of_none e hp)]; exact k79.1 a x (keep2 a x e n) n, ?_⟩
          · have dv : DR Ab H9 v d := r9.dr.mv ⟨fun a u n e => ⟨fun z => n (hav1 a (sub2 a (hav a z))), e⟩⟩
            rw [← List.append_assoc]
            exact ((dacc2.mv (Mv.kp ta k79)).app (.cons dv .nil)).mv (updm _ _)
          · simpa using hz
      · have e : j = es.length := by omega
        subst e
        rw [List.drop_length] at hf2
        refine .inl ⟨r01.1, hl, rfl, acc2, ys ++ ys2, hacc2, by
          rw [Nat.add_mul]; omega, R6, dacc2, keep2, ?_⟩
        simpa [wLc] using hf2
  · have e : i = ds.length := by omega
    subst e
    rw [List.drop_length] at hf
    have st3 := wk _ _ H2 (R3.fit F) (fun v d h => R3.gho v d (.inr h))
    have sub : ∀ a, (Avo Av B o st a ∨ a = p) → Ab a := by
      rintro a (((z | z) | ⟨j, es, e1, e2⟩) | z)
      · exact .inl (.inl z)
      · exact .inl (.inr (.inl (.inl z)))
      · by_cases hj : j ∈ js
        · exact .inl (.inr (.inr ⟨j, es, hj, e1, e2⟩))
        · exact .inr ⟨j, es, by rw [wipeS_keep hj]; exact e1, e2⟩
      · exact .inl (.inr (.inl (.inr z)))
    have kf : Kp g H H2 := ⟨fun a x e n => keep a x (k1.1 a x e n) n, R3.kp.2⟩
    have np : ¬ Avo Av B o st p := fun z => R1.tracked F z hp
    exact .inl ⟨st3.1, hk true (.lst ys) (.ref p) H2 kf ⟨.lst np hacc (dacc.mv ⟨fun a u n e => ⟨fun z => n (sub a (.inl z)), e⟩⟩), fun _ => ⟨p, acc, ys, rfl, rfl, k1.free R.kp.2 hp, hacc, dacc.mv ⟨fun a u n e => ⟨fun z => n (sub a z), e⟩⟩⟩⟩ (by simpa [wLc2] using hf)⟩
theorem wipe_sub {js ks : List Nat} (h : ∀ j ∈ js, j ∈ ks) (σ : L2.St) : L2.wipe (L2.wipe σ js) ks = L2.wipe σ ks := by
  have one : ∀ (l : List Nat) (σ τ : L2.St), σ.length = τ.length → (∀ n : Nat, n ∉ l → σ[n]? = τ[n]?) → L2.wipe σ l = L2.wipe τ l := by
    intro l
    induction l with
    | nil => intro σ τ _ e; exact List.ext_getElem? fun n => e n (by simp)
    | cons k l ih =>
      intro σ τ len e
      simp only [L2.wipe]
      -- k apart, the rest is the same
      apply List.ext_getElem?
      intro n
      by_cases z : k = n
      · subst z
        by_cases hl : k < (L2.wipe σ l).length
        · have hl2 : k < (L2.wipe τ l).length := by rw [wipe_length] at hl ⊢; omega
          rw [List.getElem?_set_self hl, List.getElem?_set_self hl2]
        · have hl2 : ¬ k < (L2.wipe τ l).length := by rw [wipe_length] at hl ⊢; omega
          rw [List.getElem?_eq_none (by simpa using hl), List.getElem?_eq_none (by simpa using hl2)]
      · rw [List.getElem?_set_ne z, List.getElem?_set_ne z]
        have q := ih (σ.set k none) (τ.set k none) (by simpa using len) fun m hm => by
          by_cases y : k = m
          · subst y
            by_cases hk : k < σ.length
            · rw [List.getElem?_set_self hk, List.getElem?_set_self (len ▸ hk)]
            · rw [List.getElem?_eq_none (by rw [List.length_set]; omega), List.getElem?_eq_none (by rw [List.length_set]; omega)]
          · rw [List.getElem?_set_ne y, List.getElem?_set_ne y]
            exact e m (by simp [hm, Ne.symm y])
        have w : ∀ (σ : L2.St), (L2.wipe (σ.set k none) l)[n]? = (L2.wipe σ l)[n]? := by
          intro σ
          have : ∀ l : List Nat, (L2.wipe (σ.set k none) l)[n]? = (L2.wipe σ l)[n]? := by
            intro l
            induction l with
            | nil => exact List.getElem?_set_ne z
            | cons j l ih2 =>
              simp only [L2.wipe]
              by_cases y : j = n
              · subst y
                by_cases hj : j < (L2.wipe σ l).length
                · rw [List.getElem?_set_self hj, List.getElem?_set_self (by rw [wipe_length] at hj ⊢; simpa using hj)]
                · rw [List.getElem?_eq_none (by rw [wipe_length] at hj; simp only [List.length_set, wipe_length]; omega), List.getElem?_eq_none (by rw [wipe_length] at hj; simp only [List.length_set, wipe_length]; omega)]
              · rw [List.getElem?_set_ne y, List.getElem?_set_ne y]; exact ih2
          exact this l
        rw [← w σ, ← w τ, q]
  refine one ks _ _ (wipe_length σ js) fun n hn => ?_
  have key : ∀ l : List Nat, (∀ j ∈ l, j ∈ ks) → (L2.wipe σ l)[n]? = σ[n]? := by
    intro l
    induction l with
    | nil => intro _; rfl
    | cons j l ih =>
      intro hl
      simp only [L2.wipe]
      rw [List.getElem?_set_ne fun (e : j = n) => hn (e ▸ hl j List.mem_cons_self)]
      exact ih fun i hi => hl i (List.mem_cons_of_mem _ hi)
  exact key js h
theorem WG.mono {js ks : List Nat} (h : ∀ j ∈ js, j ∈ ks) (w : WG g X tg js bn) : WG g X tg ks bn := by
  obtain ⟨t, p, q⟩ := w
  refine ⟨t, p, fun Av B gh H0 o σ st H v d Q Qd hg F R r hb hk => q Av B gh H0 o σ st H v d Q Qd hg F R r hb fun σ' st' R' hw hav hq => hk σ' st' R' ?_ (fun n => hav fun j hj => n j (h j hj)) hq⟩
  rw [← wipe_sub h σ', ← wipe_sub h σ, hw]
/-- one reading for all blocks: an inner source -/
theorem wi_uni (h : ∀ i : Blks X scope, WI g (blkX X scope i) tg iter wi) : ∃ t, (∀ i : Blks X scope, PI (blkX X scope i) tg iter t) ∧ SndI g wi t :=
  uni (ι := Blks X scope) (T := TI) (fun f σ H R => ∀ i, f i σ H R) (fun f i p => ⟨fun pins s σ H R I h => p.run pins s σ H R I (h i)⟩) (fun f hf Av B gh H0 o σ st H R Qd a b c e k i => hf i Av B gh H0 o σ st H R Qd a b c e k) h
theorem we_lc2 (js1 : List Nat) (hc : X.calm = true) (hN : X.N.Nodup) (hv : ∀ i ∈ js1, i ∈ own.map (·.2)) (hi : WI g X tg iter wi) (ok : BlkOk X.N X.env.scope scope own) (hg : ∀ i : Blks X scope, WG g (blkX X scope i) tg (own.map (·.2)) bn)
    (ht : ∀ i : Blks X scope, WTs g (blkX X scope i) ifs tt) (hi1 : ∀ i : Blks X scope, WI g (blkX X scope i) tg1 iter1 wi1) (hg1 : ∀ i : Blks X scope, WG g (blkX X scope i) tg1 js1 bn1) (ht1 : ∀ i : Blks X scope, WTs g (blkX X scope i) ifs1 tt1)
    (he : ∀ i : Blks X scope, WE g (blkX X scope i) elt te) (hs : ∀ x, foldedSetIterable iter X.env x = pure x := by intro _; rfl) (hs1 : ∀ env x, foldedSetIterable iter1 env x = pure x := by intro _ _; rfl) :
    WE g X (.ListComp elt [⟨tg, iter, ifs, 0⟩, ⟨tg1, iter1, ifs1, 0⟩] scope pos) (fun st Q => wi st fun ds => ds.length ≤ 1000 ∧ wLc2 bn tt wi1 bn1 tt1 te js1 (wipeS st (own.map (·.2))) ds fun ys => Q true (.lst ys)) := by
  obtain ⟨ti, pi, qi⟩ := hi
  obtain ⟨⟨tb, pb, qb⟩, ⟨tT, pt, qt⟩, ⟨tE, pe, qe⟩⟩ := lc_parts hg ht he
  obtain ⟨ti1, pi1, qi1⟩ := wi_uni hi1
  obtain ⟨⟨tb1, pb1, qb1⟩, ⟨tT1, pt1, qt1⟩, _⟩ := lc_parts hg1 ht1 he
  exact ⟨_, pe_lc2 hc hN pi ok hv (fun s H C cl fp => pb (s, H, C, cl, fp)) (fun s H C cl fp => pt (s, H, C, cl, fp)) (fun s H C cl fp => pi1 (s, H, C, cl, fp)) (fun s H C cl fp => pb1 (s, H, C, cl, fp)) (fun s H C cl fp => pt1 (s, H, C, cl, fp)) (fun s H C cl fp => pe (s, H, C, cl, fp)) hs hs1,
    lc2_snd _ js1 qi qb qt qi1 qb1 qt1 qe⟩
end
/-! ### classes, classmethods -/
structure IniN (K : PySem.W.Frag) (C : Addr) (qual : Str) (st : Stmt) (ps : List Str) (f : Addr) (fd : FuncData) : Prop where
  F : Fun K "__init__" qual st f fd
  b : Binds K fd ps []
  made : Mk K C f
structure CMd (K : PySem.W.Frag) (C : Addr) (x qual : Str) (st : Stmt) (ps : List Str) (f : Addr) (fd : FuncData) : Prop where
  F : Fun K x qual st f fd
  b : Binds K fd ps []
  m : ∃ mc p, ClX.CRead K C mc ∧ ClX.CMet K C mc x p f
theorem FnOk.raw0 {P : Program} {w : World} {K : PySem.W.Frag} {mg : Str → Option Value} {base : Heap} {CX : CXT} {k : Nat} {f : Addr} {sp : Sp} {fd : FuncData} {ps : List Str} (F : FnOk P w K mg base CX k f fd ps sp) (hb : Binds K fd ps []) : FnR P w K mg base CX k f sp :=
  (F.raw hb .nil).imp fun vs H Q E h => by rw [List.append_nil]; exact h
theorem pe_cm {X : Cx} {C f : Addr} {x qual nm : Str} {st : Stmt} {ps : List Str} {fd : FuncData} {k : Nat} {sp : Sp} {e : Expr} {es : List Expr} {t : TA} {p2 apos pos : Pos} (c : CMd X.K C x qual st ps f fd) (F : FnOk X.prog X.w X.K X.mg X.base CX0 k f fd ps sp) (hr : Room k X.A)
    (hg : Gl X nm) (hm : X.mg nm = some (.ref C)) (ha : PA X (e :: es) t) (hd : (nm == ("__debug__" : Str)) = false := by decide)
    (hst : starEach (e :: es) X.env = (false, eval e X.env) :: starEach es X.env := by rfl) (hpl : (backTo pos (starEach es X.env)).any (·.1) = false := by rfl)
    (ht : ∃ pl, eval (.Call (.Attribute (.Name nm p2) x apos) (e :: es) [] pos) X.env = (do
      let ov ← eval (.Name nm p2) X.env
      standAt apos.atName
      let (f, first) ← holding [ov] (getMethod ov x pl)
      callWith pos f first (backTo pos (starEach (e :: es) X.env)) (backToKw pos (keywordEach [] X.env))) := by exact ⟨_, rfl⟩) :
    PE X (.Call (.Attribute (.Name nm p2) x apos) (e :: es) [] pos) (ClX.tCMeth C sp E0 (tC (.ref C)) t) := by
  obtain ⟨mc, p, r, m⟩ := c.m
  obtain ⟨pl, ht⟩ := ht
  exact ClX.pe_cmeth (pe_glob hg hm (v := .ref C) rfl hd) r m (DW.FnOk.raw0 F c.b) hr pass0 ha hst hpl ht
end DW
namespace DW
open PySem PySem.Spec PyProof.Rows L2
/-! ### for x in o, [.. for x in o] by the class's own __iter__ that returns iter(self.f), a tuple -/
def ItT (t it : Addr) (i : Nat) : HO := .ext fun h => h.IsTupleIter it t i
theorem itT_ok {P : Program} {w : World} {H : Hp} {h : Heap} {it t : Addr} {i : Nat} (e : h.IsTupleIter it t i) : ObjOk P w H h it (ItT t it i) := by
  obtain ⟨o, ho, r⟩ := id e
  refine ⟨e, ⟨o, ho⟩, ?_⟩
  rintro h1 h2 ⟨o1, e1, r1⟩ k
  exact ⟨o1, k _ e1, r1⟩
def rIterT (K : PySem.W.Frag) (n : Nat) : List V → Hp → VK → Prop := fun xs H Q => ∃ (t : Addr) (zs : List V), xs = [.ref t] ∧ SqT K H t zs ∧ ∀ it, H it = none → n ≤ it → Q (.ref it) (upd H it (ItT t it 0))
theorem call_iterT {X : Cx} : CallR X (.builtin "iter") (rIterT X.K X.s_0.heap.objs.size) := by
  intro pins s σ H xs us Q I r h
  obtain ⟨l, zs, rfl, hq, q⟩ := h
  obtain ⟨u, rfl, ru⟩ := vals1 r
  cases ru
  obtain ⟨its, rv, p, hz⟩ := I.tuple hq
  refine Calls.call_function_entry (by decide +kernel) (by decide +kernel) PySem.W.kdk_entry_iter (PySem.W.kdk_args_iter _) ?_
  unfold Builtin.«iter»
  refine wpAny_bind (m := someArgs "iter" 1 2 _) (wpAny_of_eq (a := [Value.ref l]) (by first | rfl | kernel_rfl!) ?_)
  show wpAny _ _ (pyIter (.ref l) >>= _) _ _ _
  refine wpAny_bind (wpAny_pyIter_tuple (show s.heap.IsTuple l its.toArray from p) ?_)
  refine wpAny_pure ⟨_, rfl, ?_⟩
  exact ⟨.ref s.heap.objs.size, _, I.laid (t' := s.toks) (fun b u e => Heap.get?_push_of_some _ e) (Nat.le_refl _) (itT_ok ⟨_, Heap.get?_push_size _ rfl, rfl, rfl⟩), rfl, q _ (I.hok.fresh (Nat.le_refl _)) I.sz⟩
/-- the class's own __iter__ -/
structure ItrM (P : Program) (w : World) (K : PySem.W.Frag) (mg : Str → Option Value) (base : Heap) (k : Nat) (C f : Addr) (fd : FuncData) (fld : Str) : Prop where
  at_ : PySem.W.findIn K (.ref C) "__iter__" = some (some (.ref f))
  fn : PySem.W.isFn K (.ref f) = true
  b : Binds K fd ["self"] []
  run : ∀ (A : Around) (fr : List Env) (s : Shared) (H : Hp) (as : Args) (us : List Value) (a dx t : Addr) (fs : List (Str × V)) (zs : List V) (Q : VK) (E : XK), Room k A → Env0 P w K mg base A fr s H → BindsTo s fd as ((["self"] : List Str).zip us) → Vals [.ref a] us →
    H a = some (.ins C dx fs) → fs.lookup fld = some (.ref t) → SqT K H t zs → (∀ it, H it = none → s.heap.objs.size ≤ it → Q (.ref it) (upd H it (ItT t it 0))) → codeAny (model P w) A (.call (.ref f) as) (L2.CR CX0 fr P w H s Q E) s
theorem itr_mk {P : Program} {w : World} {K : PySem.W.Frag} {mg : Str → Option Value} {base : Heap} {x qual : Str} {st : Stmt} {f C : Addr} {fd : FuncData} {N : List Str} {fld : Str}
    (F : Fun K x qual st f fd) (S : FnScope N ["self"] (defScope st)) (hb : Binds K fd ["self"] []) (ha : PySem.W.findIn K (.ref C) "__iter__" = some (some (.ref f))) (hf : PySem.W.isFn K (.ref f) = true) (cl : Cls K C) (na : NoAttr K C fld)
    (body : ∀ (cdv : Value) (A : Around) (fr : List Env) (s : Shared) (H : Hp) (E : XK), ∃ t : TA, (∀ σ H' R, t σ H' R ↔ tFld K (tVar 0) fld σ H' fun v H'' => R [v] H'') ∧ PSs (cxOf CX0 P w K mg base N qual (defScope st) f cdv A fr s H E).nox (defBody st) (tRet (tCB (rIterT K s.heap.objs.size) t))) :
    ItrM P w K mg base 1 C f fd fld := by
  refine ⟨ha, hf, hb, ?_⟩
  obtain ⟨oc, od, kV, doc, pm, an, cdv, ct, osl, rfl, lk, hcd⟩ := F.ex
  intro A fr s H as us a dx t fs zs Q E hr e0 hbt rv hA hl hq hQ
  have KX : K.In s.heap := e0.mod.kin.keeps (fun b o e => (e0.bs b o e).1)
  have kinds : ∀ y ∈ (["self"] : List Str).zip us, (defScope st).names.lookup y.1 = some .local ∨
      ((defScope st).names.lookup y.1 = some .cell ∧ ((cellsFrom (s.heap.objs.size + 1) (defScope st).names []).lookup y.1).isSome = true) := by
    rintro ⟨n, v⟩ hy
    cases S.par n (List.of_mem_zip hy).1 with
    | inl q => exact Or.inl q
    | inr q => exact Or.inr ⟨q, PySem.W.cellsFrom_some _ _ _ (Or.inl q)⟩
  apply codeAny_call_function hr.depth (KX _ _ lk) rfl S.co S.gen rfl (PySem.W.codeRec_of KX hcd) (hbt _ _ _ _ _)
  refine wpAny_newFunctionEnv_cells S.kind kinds ?_
  intro env he s1 ic
  subst he
  refine ⟨(e0.mod.nolimit.keeps fun b o e => (e0.bs b o e).1).keeps ic.toInCall.keep, codeAny_func ?_⟩
  obtain ⟨tr, htr, ht⟩ := body cdv A fr s H E
  have I0 := inv_start (CX := CX0) (E := E) S hr.hd e0 rfl rv ic
  have hq0 : tRet (tCB (rIterT K s.heap.objs.size) tr) { nx := fun _ H' => Q .non H', rt := Q } (L2.start N [.ref a]) H := by
    refine (htr _ _ _).mpr ⟨.ref a, ?_, a, C, dx, fs, .ref t, rfl, hA, cl, na, hl, t, zs, rfl, hq, fun it n le => hQ it n le⟩
    simp [L2.start]
  refine wpAny_mono (ht.nox.run [] s1 _ H _ I0 hq0) ?_ (fun e s2 hs => hs)
  intro fl s2 hs
  match fl, hs with
  | .ret u, ⟨v, σ', H', J, ru, q⟩ => exact ⟨v, H', J.os, J.bare, J.base, J.hok, ru, q⟩
  | .next, ⟨σ', H', J, q⟩ => exact ⟨.non, H', J.os, J.bare, J.base, J.hok, rfl, q⟩
  | .brk, ⟨_, _, _, q⟩ => exact q.elim
  | .cont, ⟨_, _, _, q⟩ => exact q.elim
def iOwn (K : PySem.W.Frag) (C : Addr) (fld : Str) (tl : TE) : TI := fun σ H R => tl σ H fun x H1 => ∃ a dx fs t zs, x = .ref a ∧ H1 a = some (.ins C dx fs) ∧ fs.lookup fld = some (.ref t) ∧ SqT K H1 t zs ∧ R (Itt K t) H1
theorem pi_own {X : Cx} {tg l : Expr} {tl : TE} {k : Nat} {C f : Addr} {fd : FuncData} {fld : Str} (hl : PE X l tl) (M : ItrM X.prog X.w X.K X.mg X.base k C f fd fld) (hr : Room k X.A) : PI X tg l (iOwn X.K C fld tl) := by
  refine ⟨fun pins s σ H R I h => ?_⟩
  refine thn (hl.run pins s σ H _ I h) fun v s1 ⟨x, H1, I1, r1, q1⟩ => ?_
  obtain ⟨a, dx, fs, t, zs, rfl, ha, hlk, hq, q⟩ := q1
  cases r1
  obtain ⟨mA, J, _⟩ := ins_get I1.hok ha
  obtain ⟨od, J, _⟩ := J.look
  obtain ⟨m0, hF⟩ := I1.fr
  refine PySem.W.owit_iter hF I1.ok.mod.kin J M.at_ M.fn ?_
  refine wpAny_call (codeAny_mono (M.run X.A X.stack s1 H1 ⟨[.ref a], []⟩ [.ref a] a dx t fs zs (fun v H' => ∃ it, H1 it = none ∧ s1.heap.objs.size ≤ it ∧ v = .ref it ∧ H' = upd H1 it (ItT t it 0)) E0 hr I1.env0 (by
    have := M.b s1 [.ref a] I1.kIn (by rfl)
    simpa using this) (.cons rfl .nil) ha hlk hq fun it n le => ⟨it, n, le, rfl, rfl⟩) fun r s' hq' => ?_)
  cases r with
  | error e => exact pass0 pins σ H1 s1 e s' I1 hq'
  | ok fl =>
    cases fl with
    | next => exact False.elim hq'
    | brk => exact False.elim hq'
    | cont => exact False.elim hq'
    | ret u =>
      obtain ⟨v, H', I', rv, it, nit, le, ev, eH⟩ := I1.after hq'
      subst ev
      rw [eH] at I'
      cases rv
      have st : s'.heap.IsTupleIter it t 0 := (I'.hok it _ upd_same).1
      have hx : upd H1 it (ItT t it 0) it = some (.ext fun h => h.IsTupleIter it t 0) := upd_same
      have I2 := ItX.inv_drop I' hx
      have e3 : ItX.dropH (upd H1 it (ItT t it 0)) it = H1 := ItX.dropH_upd nit
      have yg : X.s_0.heap.objs.size ≤ it := Nat.le_trans I1.sz le
      have fp := ItX.inv_fp I' upd_same yg
      rw [e3] at I2 fp
      unfold PySem.W.OwitIt
      refine wpAny_specialOf (name := "__next__") st.typeIs slot_tupleiter_next.lookup ?_
      refine ⟨it, [it], _, _, H1, rfl, I2, turn_tuple t it, st, fun b hb => ?_, q⟩
      rw [List.mem_singleton.mp hb]
      exact fp
def mItr (C : Addr) (fld : Str) (d : D) (Q : List D → Prop) : Prop := ∃ fs ds, d = .obj C fs ∧ fs.lookup fld = some (.tup ds) ∧ Q ds
theorem wi_own {g : Gd} {X : Cx} {tg e : Expr} {w : WP} {k : Nat} {C f : Addr} {fd : FuncData} {fld : Str} (h : WE g X e w) (M : ItrM X.prog X.w X.K X.mg X.base k C f fd fld) (hr : Room k X.A) : WI g X tg e (fun st Q => w st fun _ d => mItr C fld d Q) := by
  obtain ⟨t, p, q⟩ := h
  refine ⟨_, pi_own p M hr, fun Av B gh H0 o σ st H R Qd hg F Rl hw hk => ?_⟩
  refine q Av B gh H0 o σ st H _ _ hg F Rl hw fun fr d v H1 k1 r1 hd => ?_
  obtain ⟨fs, ds, rfl, hl, hd⟩ := hd
  have r := r1.dr
  cases id r with
  | obj n1 e1 q1 =>
    obtain ⟨v', l, rv⟩ := (q1.look (f := fld)).1 _ hl
    cases id rv with
    | tup n e rs => exact ⟨_, _, _, _, _, rfl, e1, l, .inl (.inl e), hk ds _ _ H1 k1 (oneR (.tup n e rs)) walk_tup hd⟩
/-! ### x in o by the class's own __contains__ -/
theorem special_un {M : Model} {A : Around} {E : Value → Shared → Prop} {K : PySem.W.Frag} {s : Shared} {x C f : Addr} {ox : Obj} {od : Option Obj} {name : Str} {args : List Value} {refuse : Sem Value} {Q : Option Value → Shared → Prop} (X : K.In s.heap) (I : PySem.W.InstAt s.heap x ox C od)
    (hs : PySem.W.findIn K (.ref C) name = some (some (.ref f))) (hf : PySem.W.typeIn K (.ref f) = some (.type "function")) (h : wpAny M A (call (.ref f) (.ref x :: args)) (fun v => Q (some v)) E s) : wpAny M A (callSpecialUnlessNone? (.ref x) name args refuse) Q E s := by
  unfold callSpecialUnlessNone?
  refine wpAny_bind (wpAny_bind (I.type.here ((PySem.W.looks_findIn X hs).here ?_)))
  refine wpAny_holding (wpAny_bind ((PySem.W.bind_fn X _ hf).here ?_))
  refine PySem.W.KFB.if_not rfl ?_
  exact wpAny_bind (wpAny_mono h (fun _ _ z => wpAny_pure z) fun _ _ z => z)
def rInO (C : Addr) (sp : Sp) (E : XK) : R2 := fun x y H Q => ∃ b dx gs, y = .ref b ∧ H b = some (.ins C dx gs) ∧ sp [y, x] H (fun v H' => ∃ k, v = .bl k ∧ Q (.bl k) H') E
theorem op_inO {X : Cx} {CX : CXT} {n : Nat} {C f : Addr} {fd : FuncData} {ps : List Str} {sp : Sp} {E : XK} (F : FnOk X.prog X.w X.K X.mg X.base CX n f fd ps sp)
    (hs : PySem.W.findIn X.K (.ref C) "__contains__" = some (some (.ref f))) (hf : PySem.W.isFn X.K (.ref f) = true) (hb : Binds X.K fd ps []) (hx : Passes CX X E) (hr : Room n X.A) : OpR X (compareOp .In) (rInO C sp E) := by
  intro pins s σ H x y u v Q I rx ry d
  obtain ⟨b, dx, gs, rfl, hb', hsp⟩ := d
  cases ry
  obtain ⟨mB, J, _⟩ := ins_get I.hok hb'
  obtain ⟨od, J, _⟩ := J.look
  show wpAny (model X.prog X.w) X.A (contains (.ref b) u >>= fun r => pure (Value.bool r)) (EP X pins σ Q) X.xe s
  refine wpAny_bind ?_
  unfold contains
  refine wpAny_holding ?_
  show wpAny _ _ (specialOf (.ref b) "__contains__" >>= _) _ _ _
  refine wpAny_bind (wpAny_bind (J.type.here ((PySem.W.looks_findIn I.kIn hs).here ?_)))
  refine PySem.W.KFB.if_not rfl ?_
  refine wpAny_bind (special_un I.kIn J hs (beq_iff_eq.mp hf) ?_)
  have hl := F.len _ _ _ _ hsp
  refine wpAny_call (codeAny_mono (F.run X.A X.stack s H ⟨[.ref b, u], []⟩ [.ref b, u] [.ref b, x] _ E hr I.env0 (by
    have := hb s [.ref b, u] I.kIn (by simpa using hl)
    simpa using this) (.cons rfl (.cons rx .nil)) hsp) fun r s' hq => ?_)
  cases r with
  | error e => exact hx pins σ H s e s' I hq
  | ok fl =>
    cases fl with
    | ret w =>
      obtain ⟨z, H', I', rz, k, ez, q⟩ := I.after hq
      subst ez
      cases rz
      exact wpAny_truthy_bool (wpAny_pure ⟨.bl k, H', I', rfl, q⟩)
    | next => exact False.elim hq
    | brk => exact False.elim hq
    | cont => exact False.elim hq
def mInO (C : Addr) (SP : List D → RQ → Prop) : Sem2 := fun x y Q => x.isC = false ∧ ∃ gs, y = .obj C gs ∧ SP [y, x] fun _ d => ∃ k, d = .bl k ∧ Q false (.bl k)
theorem s2_inO {g : Gd} {C : Addr} {SP : List D → RQ → Prop} : S2 g (rInO C (spOf g 2 SP) E0) (mInO C SP) := by
  intro Avs Av H x y vx vy Q Qd F rx ry hm hk
  obtain ⟨hc, gs, rfl, hm⟩ := hm
  have r1 := rx.dr hc
  have r2 := ry.dr (by simp)
  cases id r2 with
  | obj n2 e2 q2 =>
    refine ⟨_, _, _, rfl, e2, rfl, Avs, _, _, F.gg, ⟨F.t1, F.tr⟩, .cons r2 (.cons r1 .nil), hm, ?_⟩
    rintro fr d v H' k r ⟨c, rfl, hq⟩
    have r := r.dr
    cases r
    exact ⟨c, rfl, hk false _ _ H' k (.old (.bl c)) hq⟩
/-! ### o.m(..), m a classmethod of o's class -/
theorem we_imeth {g : Gd} {X : Cx} {n : Nat} {C : Addr} {SP : List D → RQ → Prop} {ex o' : Expr} {es : List Expr} {m : Str} {w : WP} {wa : WPA} (ho : WE g X o' w) (ha : WA g X es wa) (hc : ∀ ta t, PE X o' ta → PA X es t → PE X ex (ClX.tIMethD C m (spOf g n SP) E0 ta t)) :
    WE g X ex (fun st Q => w st fun _ s => ∃ fs, s = .obj C fs ∧ fs.lookup m = none ∧ wa st fun ds => ds.length + 1 = n ∧ SP (.rf C :: ds) Q) := by
  obtain ⟨ta, pa, qa⟩ := ho
  obtain ⟨t, p, q⟩ := ha
  refine ⟨_, hc ta t pa p, fun Av B gh H0 o σ st H Q Qd hg F R hw hk => ?_⟩
  refine qa Av B gh H0 o σ st H _ _ hg F R hw fun fr s v H1 k1 r1 hd => ?_
  obtain ⟨fs, rfl, l, hd⟩ := hd
  have z := r1.dr
  cases z with
  | obj na ea rf =>
    refine ⟨_, _, _, rfl, ea, (rf.look (f := m)).2 l, ?_⟩
    refine q Av B gh H0 o σ st H1 _ _ hg F (R.mono F k1) hd fun ds vs H2 k2 r2 hd2 => ?_
    have R2 := (R.mono F k1).mono F k2
    refine ⟨by rw [List.length_cons, r2.length]; exact hd2.1, Avo Av B o st, .rf C :: ds, Qd, k2.2, R2.frok F, .cons (.rf C) r2, hd2.2, fun fr d v H' k r hq => ?_⟩
    exact hk fr d v H' ((k1.trans k2).trans k) (r.back R.kp.2 (k1.trans k2)) hq
/-! ### C.m(..), m a staticmethod -/
structure SMet (K : PySem.W.Frag) (C : Addr) (m : Str) (p f : Addr) : Prop where
  rd : PySem.W.readsIn K C (.type "type") = true
  ga : PySem.W.specialIn K (.ref C) "__getattribute__" = some (some (.builtin "type.__getattribute__"))
  at_ : PySem.W.findCls K (.ref C) (.type "type") m = some (.get (.builtin "staticmethod.__get__") (.ref p) .none (.ref C))
  rc : ∃ rest, PySem.W.recIn K p "staticmethod" = some (.ref f :: rest)
  hv : PySem.W.handedIn (.ref f) = true
structure SMd (K : PySem.W.Frag) (C : Addr) (x qual : Str) (st : Stmt) (ps : List Str) (f : Addr) (fd : FuncData) : Prop where
  F : Fun K x qual st f fd
  b : Binds K fd ps []
  m : ∃ p, SMet K C x p f
def tSMeth (C : Addr) (sp : Sp) (E : XK) (ta : TE) (t : TA) : TE := fun σ H Q => ta σ H fun x H1 => x = .ref C ∧ t σ H1 fun vs H2 => sp vs H2 Q E
theorem pe_smeth {X : Cx} {CX : CXT} {k : Nat} {C p f : Addr} {sp : Sp} {E : XK} {o e : Expr} {es : List Expr} {m : Str} {pos apos : Pos} {ta : TE} {t : TA} {pl : Sem Bool}
    (he : PE X o ta) (c : SMet X.K C m p f) (hk : PySem.W.keepIn X.K (.ref f) = true) (F : FnR X.prog X.w X.K X.mg X.base CX k f sp) (hr : Room k X.A) (hx : Passes CX X E) (ha : PA X (e :: es) t)
    (hst : starEach (e :: es) X.env = (false, eval e X.env) :: starEach es X.env := by rfl) (hpl : (backTo pos (starEach es X.env)).any (·.1) = false := by rfl)
    (ht : eval (.Call (.Attribute o m apos) (e :: es) [] pos) X.env = (do
      let ov ← eval o X.env
      standAt apos.atName
      let (f, first) ← holding [ov] (getMethod ov m pl)
      callWith pos f first (backTo pos (starEach (e :: es) X.env)) (backToKw pos (keywordEach [] X.env))) := by rfl) :
    PE X (.Call (.Attribute o m apos) (e :: es) [] pos) (tSMeth C sp E ta t) := by
  refine ⟨fun pins s σ H Q I h => ?_⟩
  refine PySem.W.methodCall_KW (pl := pl) (thn (he.run pins s σ H _ I h) fun u s1 ⟨x, H1, I1, rx, ex, q⟩ => ?_) ht
  subst ex
  obtain rfl : u = Value.ref C := rx
  obtain ⟨rest, hp⟩ := c.rc
  refine PySem.W.method_cls I1.kIn c.ga (PySem.W.cls_bind I1.kIn c.rd c.at_ (wpAny_call (PySem.W.sm_get (s := { s1 with toks := s1.toks + 1 }) I1.kIn hp (PySem.W.handed_on c.hv ?_))))
  refine PySem.W.callWith_K (h₀ := X.base) I1.ok.mod.kin hk (thn (ha.run pos pins _ σ H1 _ (I1.tok _) q) fun us s2 ⟨vs, H2, I2, r, q2⟩ => ⟨I2.kIn, ?_⟩) hst hpl
  exact wpAny_call (run_fnR F hr hx I2 r q2)
theorem we_smeth {g : Gd} {X : Cx} {n : Nat} {C : Addr} {SP : List D → RQ → Prop} {ex : Expr} {es : List Expr} {wa : WPA} (ha : WA g X es wa) (hc : ∀ t, PA X es t → PE X ex (tSMeth C (spOf g n SP) E0 (tC (.ref C)) t)) :
    WE g X ex (fun st Q => wa st fun ds => ds.length = n ∧ SP ds Q) := by
  obtain ⟨t, p, q⟩ := ha
  refine ⟨_, hc t p, fun Av B gh H0 o σ st H Q Qd hg F R hw hk => ⟨rfl, ?_⟩⟩
  refine q Av B gh H0 o σ st H _ _ hg F R hw fun ds vs H1 k1 r1 hd => ?_
  refine ⟨by rw [r1.length]; exact hd.1, Avo Av B o st, ds, Qd, k1.2, (R.mono F k1).frok F, r1, hd.2, fun fr d v H' k r hq => ?_⟩
  exact hk fr d v H' (k1.trans k) (r.back R.kp.2 k1) hq
theorem pe_sm {X : Cx} {C f : Addr} {x qual nm : Str} {st : Stmt} {ps : List Str} {fd : FuncData} {k : Nat} {sp : Sp} {e : Expr} {es : List Expr} {t : TA} {p2 apos pos : Pos} (c : SMd X.K C x qual st ps f fd) (F : FnOk X.prog X.w X.K X.mg X.base CX0 k f fd ps sp) (hr : Room k X.A)
    (hg : Gl X nm) (hm : X.mg nm = some (.ref C)) (ha : PA X (e :: es) t) (hd : (nm == ("__debug__" : Str)) = false := by decide)
    (hst : starEach (e :: es) X.env = (false, eval e X.env) :: starEach es X.env := by rfl) (hpl : (backTo pos (starEach es X.env)).any (·.1) = false := by rfl)
    (ht : ∃ pl, eval (.Call (.Attribute (.Name nm p2) x apos) (e :: es) [] pos) X.env = (do
      let ov ← eval (.Name nm p2) X.env
      standAt apos.atName
      let (f, first) ← holding [ov] (getMethod ov x pl)
      callWith pos f first (backTo pos (starEach (e :: es) X.env)) (backToKw pos (keywordEach [] X.env))) := by exact ⟨_, rfl⟩) :
    PE X (.Call (.Attribute (.Name nm p2) x apos) (e :: es) [] pos) (tSMeth C sp E0 (tC (.ref C)) t) := by
  obtain ⟨p, m⟩ := c.m
  obtain ⟨pl, ht⟩ := ht
  exact pe_smeth (pe_glob hg hm (v := .ref C) rfl hd) m c.F.kp (DW.FnOk.raw0 F c.b) hr pass0 ha hst hpl ht
/-! ### x = xs.pop(i) -/
theorem ws_popSet {g : Gd} {X : Cx} {s : Stmt} {ei : Expr} {wi : WP} (j i' : Nat) (hi : WE g X ei wi) (hp : ∀ ti, PE X ei ti → PS X s (tAsg (tBM X.K "list" rPopAt (tVar j) (tCons ti tNil)) (gName i'))) :
    WS g X s (fun De st => ∃ ds, st[j]? = some (.own ds) ∧ wi st fun _ k => ∃ (i : Nat) (d : D), k = .int (i : Int) ∧ ds[i]? = some d ∧ i ≤ 1000 ∧ De.nx ((st.set j (.own (ds.eraseIdx i))).set i' (.val d))) := by
  obtain ⟨t2, p2, q2⟩ := hi
  refine ⟨_, hp t2 p2, fun Av B gh H0 o σ st H E De hg F R hw K => ?_⟩
  obtain ⟨ds, hj, hw⟩ := hw
  obtain ⟨e1, e2, nb, vs, e3, rr⟩ := R.own j ds hj
  refine ⟨_, e1, .inl ⟨rfl, vs, .inl (.inl e3)⟩, q2 Av B gh H0 o σ st H _ _ hg F R hw fun fr k v1 H1 k1 r1 hd => ?_⟩
  obtain ⟨i, d, rfl, hd1, hi, hd⟩ := hd
  have R1 := R.mono F k1
  obtain ⟨_, _, _, vs1, e4, r4⟩ := R1.own j ds hj
  have ev : v1 = .int (i : Int) := by cases r1.dr; rfl
  subst ev
  obtain ⟨x, hx, rx⟩ := r4.get hd1
  have hl : i < vs1.length := (List.getElem?_eq_some_iff.mp hx).1
  have R2 := R1.updOwn F hj (r4.erase i)
  refine ⟨_, vs1, (i : Int), i, x, rfl, rfl, e4, by omega, by omega, ?_, hx, K.nx o _ _ _ (R2.setVal i' (rx.mv ⟨fun a u n e => ⟨fun z => n ?_, ?_⟩⟩)) hd⟩
  · unfold seqIndex?
    have h1 : ¬ ((i : Int) < 0) := by omega
    simp only [if_neg h1]
    have h2 : (decide (0 ≤ (i : Int)) && decide ((i : Int) < (vs1.length : Int))) = true := by simp; omega
    rw [if_pos h2, Int.toNat_natCast]
  · rcases z with z | ⟨q, es, h1, h2⟩
    · exact .inl z
    · by_cases c : q = j
      · subst c; exact .inr ⟨q, _, hj, h2⟩
      · rw [List.getElem?_set_ne (Ne.symm c)] at h1
        exact .inr ⟨q, es, h1, h2⟩
  · have : a ≠ o j := fun z => n (.inr ⟨j, _, hj, z ▸ rfl⟩)
    rw [upd_ne this]; exact e
/-! ### len(o) -/
def mLenO (C : Addr) (SP : List D → RQ → Prop) : SemC := fun ds Q => ∃ fs, ds = [.obj C fs] ∧ SP ds fun _ d => ∃ k : Nat, d = .int (k : Int) ∧ k ≤ 1000000 ∧ Q false (.int (k : Int))
theorem sc_lenO {g : Gd} {C : Addr} {SP : List D → RQ → Prop} : SC g (rLenO C (spOf g 1 SP) E0) (mLenO C SP) := by
  rintro Avs Av H ds vs Q Qd F r ⟨fs, rfl, hm⟩ hk
  obtain ⟨v, rfl, y⟩ := r.one
  have z := y.dr (by rfl)
  cases id z with
  | obj n1 e1 q1 =>
    refine ⟨_, _, _, rfl, e1, rfl, Avs, _, _, F.gg, ⟨F.t1, F.tr⟩, .cons z .nil, hm, ?_⟩
    rintro fr d v H' k r ⟨c, rfl, hc, hq⟩
    have r := r.dr
    cases r
    exact ⟨c, rfl, hc, hk false _ _ H' k (.old (.int _)) hq⟩
theorem pe_im {X : Cx} {C f : Addr} {x qual m : Str} {st : Stmt} {ps : List Str} {fd : FuncData} {k : Nat} {sp : Sp} {o e : Expr} {es : List Expr} {ta : TE} {t : TA} {apos pos : Pos} (J : ∃ p, ClX.CInst X.K C m p f) (he : PE X o ta) (c : CMd X.K C x qual st ps f fd) (F : FnOk X.prog X.w X.K X.mg X.base CX0 k f fd ps sp) (hr : Room k X.A)
    (ha : PA X (e :: es) t) (hst : starEach (e :: es) X.env = (false, eval e X.env) :: starEach es X.env := by rfl) (hpl : (backTo pos (starEach es X.env)).any (·.1) = false := by rfl)
    (ht : ∃ pl, eval (.Call (.Attribute o m apos) (e :: es) [] pos) X.env = (do
      let ov ← eval o X.env
      standAt apos.atName
      let (f, first) ← holding [ov] (getMethod ov m pl)
      callWith pos f first (backTo pos (starEach (e :: es) X.env)) (backToKw pos (keywordEach [] X.env))) := by exact ⟨_, rfl⟩) :
    PE X (.Call (.Attribute o m apos) (e :: es) [] pos) (ClX.tIMethD C m sp E0 ta t) := by
  obtain ⟨p, j⟩ := J
  obtain ⟨pl, ht⟩ := ht
  exact ClX.pe_imethD he j (DW.FnOk.raw0 F c.b) hr pass0 ha hst hpl ht
end DW
namespace DW
open PySem PySem.Spec PyProof.Rows L2
/-! ### for x in d: e[..] = .., d a dict with tuple keys, locked meanwhile -/
/-- all that is tracked stands -/
def Ext (H H' : Hp) : Prop := ∀ a u, H a = some u → H' a = some u
theorem Ext.refl (H : Hp) : Ext H H := fun _ _ h => h
theorem Ext.trans {H H1 H2 : Hp} (a : Ext H H1) (b : Ext H1 H2) : Ext H H2 := fun x u h => b x u (a x u h)
def accD (nk : Nat → List L2.Key) (vl : Nat → V) : Nat → List (List L2.Key × V)
  | 0 => []
  | i + 1 => putK (accD nk vl i) (nk i) (vl i)
theorem putK_len {κ : Type} [DecidableEq κ] (l : List (κ × V)) (k : κ) (v : V) : (putK l k v).length ≤ l.length + 1 := by
  unfold putK
  split
  · simp
  · simp
theorem acc_len' (nk : Nat → List L2.Key) (vl : Nat → V) : ∀ i, (accD nk vl i).length ≤ i
  | 0 => Nat.le_refl 0
  | i + 1 => by
    have := putK_len (accD nk vl i) (nk i) (vl i)
    have := acc_len' nk vl i
    show (putK _ _ _).length ≤ _
    omega
theorem dloop {id ie ix : Nat} {tK tV : TE} {kvs : List (List L2.Key × V)} {d pe : Addr} {σ0 : L2.St} {Hs : Hp} {D : Ends} (nk : Nat → List L2.Key) (vl : Nat → V)
    (hd : Hs d = some (.dT kvs)) (he : Hs pe = some (.dT [])) (ne : d ≠ pe) (hl : kvs.length ≤ 1000) (s1 : σ0[id]? = some (some (.ref d))) (s2 : σ0[ie]? = some (some (.ref pe))) (x2 : ie ≠ ix)
    (step : ∀ (i : Nat) (k : List L2.Key) (v : V) (q : Addr) (od : Obj) (σ : L2.St) (H : Hp) (D' : Ends), kvs[i]? = some (k, v) → (∀ j, j ≠ ix → σ[j]? = σ0[j]?) → σ.length = σ0.length → H q = some (.tup (k.map L2.kV)) → H d = some (.frz od (.dT kvs)) → H pe = some (.dT (accD nk vl i)) → (accD nk vl i).length ≤ 1000 →
      (∀ a u, a ≠ d → a ≠ pe → Hs a = some u → H a = some u) → (∀ b H2, Ext H H2 → H2 b = some (.tup ((nk i).map L2.kV)) → D'.nx (σ.set ix (some (.ref q))) (upd H2 pe (.dT (putK (accD nk vl i) (nk i) (vl i))))) → sDPut (tVar ie) tK tV D' (σ.set ix (some (.ref q))) H)
    (done : ∀ σ' H', (∀ j, j ≠ ix → σ'[j]? = σ0[j]?) → σ'.length = σ0.length → (∀ a u, a ≠ pe → Hs a = some u → H' a = some u) → H' pe = some (.dT (accD nk vl kvs.length)) → D.nx σ' H') :
    tLock (tFor (iKeys (tVar id)) (gName ix) (sDPut (tVar ie) tK tV)) D σ0 Hs := by
  refine ⟨d, .dT kvs, hd, trivial, fun od => ?_⟩
  refine ⟨_, s1, d, od, rfl, .inr ⟨kvs, upd_same, ?_⟩⟩
  let Iv : Nat → L2.St → Hp → Prop := fun i σ H => (∀ j, j ≠ ix → σ[j]? = σ0[j]?) ∧ σ.length = σ0.length ∧ H d = some (.frz od (.dT kvs)) ∧ H pe = some (.dT (accD nk vl i)) ∧ ∀ a u, a ≠ d → a ≠ pe → Hs a = some u → H a = some u
  refine ⟨fun i m σ H => m = kvs.length - i ∧ i ≤ kvs.length ∧ Iv i σ H, ⟨_, rfl, Nat.zero_le _, fun j _ => rfl, rfl, upd_same, by rw [upd_ne (Ne.symm ne)]; exact he, fun a u n1 _ h => by rw [upd_ne n1]; exact h⟩, ?_⟩
  rintro i m σ H ⟨rfl, hi, i1, i2, i3, i4, i5⟩
  by_cases e : i = kvs.length
  · subst e
    refine .inl ⟨⟨i3, Nat.le_refl _⟩, i3, done _ _ i1 i2 (fun a u n h => ?_) ?_⟩
    · by_cases c : a = d
      · subst c; rw [upd_same, ← hd, h]
      · rw [upd_ne c]; exact i5 a u c n h
    · rw [upd_ne (Ne.symm ne)]; exact i4
  · refine .inr ⟨⟨i3, by omega⟩, Iv (i + 1), fun σ' H' h => ⟨_, by omega, rfl, by omega, h⟩, ?_⟩
    rintro x H' ⟨rfl, k, v, q, hk, rfl, hq⟩
    have hl2 := acc_len' nk vl i
    refine step i k v q od σ H' _ hk i1 i2 hq i3 i4 (by omega) i5 fun b H2 ex hb => ?_
    refine ⟨fun j hj => by rw [List.getElem?_set_ne (Ne.symm hj)]; exact i1 j hj, by rw [List.length_set]; exact i2, ?_, upd_same, fun a u n1 n2 h => ?_⟩
    · rw [upd_ne ne]; exact ex _ _ i3
    · rw [upd_ne n2]; exact ex _ _ (i5 a u n1 n2 h)
/-! ### zip of two lists, of two tuples -/
def mZip2 : D → D → (List D → Prop) → Prop | .tup ds, .tup es, Q => Q (zipD ds es) | .lst ds, .lst es, Q => Q (zipD ds es) | _, _, _ => False
theorem mZip2_l {ds es : List D} {Q : List D → Prop} : mZip2 (.lst ds) (.lst es) Q = Q (zipD ds es) := rfl
section
variable {g : Gd} {X : Cx}
theorem walk_zipL {K : PySem.W.Frag} {a b : Addr} {ds es : List D} : Walk g (Itz K a b) (fun v d => one (.ref a) (.lst ds) v d ∨ one (.ref b) (.lst es) v d) (zipD ds es) := by
  intro Avs Av2 H' F' r0
  have r1 := r0 _ _ (.inl ⟨rfl, rfl⟩)
  have r2 := r0 _ _ (.inr ⟨rfl, rfl⟩)
  cases r1 with
  | lst n1 e1 s1 =>
  cases r2 with
  | lst n2 e2 s2 =>
    rename_i va vb
    refine ⟨⟨va, vb, .inl (.inl e1), .inl (.inl e2), ?_⟩, fun i d hi => ?_⟩
    · unfold zipD
      rw [List.length_map, List.length_zip, s1.length, s2.length]
      omega
    · obtain ⟨x, y, hx, hy, rfl⟩ := zipD_get hi
      obtain ⟨vx, hvx, rx⟩ := s1.get hx
      obtain ⟨vy, hvy, ry⟩ := s2.get hy
      refine ⟨⟨va, vb, vx, vy, .inl (.inl e1), .inl (.inl e2), hvx, hvy⟩, fun z H3 hz => ?_⟩
      obtain ⟨T, x', y', rfl, hT, rfl, hx', hy'⟩ := hz
      have ex := hx' va (.inl (.inl e1))
      have ey := hy' vb (.inl (.inl e2))
      rw [hvx] at ex; cases ex
      rw [hvy] at ey; cases ey
      obtain ⟨k, z⟩ := F'.tup (vs := [vx, vy]) (ds := [x, y]) (.cons rx (.cons ry .nil)) hT
      exact ⟨k, z.dr⟩
theorem wi_zip2 {a b : Expr} {wa wb : WP} {p pos tpos : Pos} {elts : List Expr} {kk : Nat} (ha : WE g X a wa) (hb : WE g X b wb) (hg : Gl X "zip") (hm : X.mg "zip" = none)
    (hs : starEach [a, b] X.env = (false, eval a X.env) :: starEach [b] X.env := by rfl) (hs2 : starEach [b] X.env = (false, eval b X.env) :: starEach [] X.env := by rfl) (hpl : (backTo pos (starEach [b] X.env)).any (·.1) = false := by rfl) :
    WI g X (.Tuple elts kk tpos) (.Call (.Name "zip" p) [a, b] [] pos) (fun st Q => wa st fun _ d => wb st fun _ e => mZip2 d e Q) := by
  obtain ⟨t, p1, q1⟩ := ha
  obtain ⟨t2, p2, q2⟩ := hb
  refine ⟨_, RZ.pi_zipA hg hm (pa_cons p1 (pa_cons p2 pa_nil hs2) hs) hs hpl, fun Av B gh H0 o σ st H R Qd hg F Rl hw hk => ?_⟩
  refine q1 Av B gh H0 o σ st H _ _ hg F Rl hw fun fr d v H1 k1 r1 hw1 => ?_
  refine q2 Av B gh H0 o σ st H1 _ _ hg F (Rl.mono F k1) hw1 fun fr2 e v2 H2 k2 r2 hd => ?_
  have z1 := r1.dr.mv (Mv.avo F k2)
  have z2 := r2.dr
  cases d <;> cases e <;> simp only [mZip2] at hd
  case tup.tup ds es =>
    cases z1 with
    | tup na ea ra =>
      cases z2 with
      | tup nb eb rb =>
        rename_i pa va pb vb
        refine ⟨pa, pb, va, vb, rfl, .inr ⟨.inl (.inl ea), .inl (.inl eb), ?_⟩⟩
        exact hk (zipD ds es) _ (RZ.ItzT X.K pa pb) H2 (k1.trans k2) (by
          rintro v d (⟨rfl, rfl⟩ | ⟨rfl, rfl⟩)
          · exact .tup na ea ra
          · exact .tup nb eb rb) walk_zipT hd
  case lst.lst ds es =>
    cases z1 with
    | lst na ea ra =>
      cases z2 with
      | lst nb eb rb =>
        rename_i pa va pb vb
        refine ⟨pa, pb, va, vb, rfl, .inl ⟨.inl (.inl ea), .inl (.inl eb), ?_⟩⟩
        exact hk (zipD ds es) _ (Itz X.K pa pb) H2 (k1.trans k2) (by
          rintro v d (⟨rfl, rfl⟩ | ⟨rfl, rfl⟩)
          · exact .lst na ea ra
          · exact .lst nb eb rb) walk_zipL hd
/-! ### two dicts at once -/
theorem ws_parDD {s : Stmt} {dp1 dp2 : Pos} (i j : Nat) (hij : i ≠ j) (hp : ∀ t1 t2, PE X (.Dict [] [] dp1) t1 → PE X (.Dict [] [] dp2) t2 → PS X s (tPar i j (tCons t1 (tCons t2 tNil)))) :
    WS g X s (fun De st => De.nx ((st.set i (.ow (.dT []))).set j (.ow (.dT [])))) := by
  refine ⟨_, hp _ _ pe_dnewT pe_dnewT, fun Av B gh H0 o σ st H E De hg F R hw K => ?_⟩
  intro p1 hn1 p2 hn2
  have k1 : Kp g H (upd H p1 (.dT [])) := Kp.new R.kp.2 hn1
  have R1 := R.addB F hg k1 hn1 (nt_of upd_same (fun _ z => nomatch z))
  have k2 : Kp g (upd H p1 (.dT [])) (upd (upd H p1 (.dT [])) p2 (.dT [])) := Kp.new R1.kp.2 hn2
  have R2 := R1.addB F hg k2 hn2 (nt_of upd_same (fun _ z => nomatch z))
  obtain ⟨o1, R3⟩ := R2.setOw (fun z => by
    rcases z with z | z
    · exact (R1.bt p2 (.inl z)).1 hn2
    · rw [z, upd_same] at hn2; cases hn2) (R1.kp.free hg hn2) (ds := .dT []) upd_same ⟨[], rfl, .nil⟩ j
  have e1 : upd (upd H p1 (.dT [])) p2 (.dT []) p1 = some (.dT []) := by
    have : p1 ≠ p2 := fun z => by rw [← z, upd_same] at hn2; cases hn2
    rw [upd_ne this, upd_same]
  obtain ⟨o2, R4⟩ := R3.setOw (fun z => (R.bt p1 z).1 hn1) (R.kp.free hg hn1) (ds := .dT []) e1 ⟨[], rfl, .nil⟩ i
  rw [List.set_comm _ _ (Ne.symm hij), List.set_comm _ _ (Ne.symm hij)] at R4
  exact ⟨_, _, rfl, K.nx o2 _ _ _ R4 hw⟩
/-- a[k], b[l] = x, y: the slots' own dicts -/
theorem ws_dput2 {s : Stmt} {e1 e2 i1 i2 : Expr} {w1 w2 u1 u2 : WP} (a b : Nat) (h1 : WE g X e1 w1) (h2 : WE g X e2 w2) (v1 : WR g X i1 u1) (v2 : WR g X i2 u2)
    (hp : ∀ t1 t2 s1 s2, PE X e1 t1 → PE X e2 t2 → PE X i1 s1 → PE X i2 s2 → PS X s (tAsg (tTup (tCons t1 (tCons t2 tNil))) (gTup X.K 2 (gCons (gSub (tVar a) s1 L2.rSetD) (gCons (gSub (tVar b) s2 L2.rSetD) gNil))))) :
    WS g X s (fun De st => (∃ c, st[a]? = some (.ow c)) ∧ (∃ c, st[b]? = some (.ow c)) ∧ w1 st fun _ d1 => w2 st fun _ d2 => u1 st fun _ y1 => ∃ kvs k, st[a]? = some (.ow (.dT kvs)) ∧ y1 = keyD k ∧ kvs.length < sizeLine ∧
      (∃ c, (st.set a (.ow (.dT (putD kvs k d1))))[b]? = some (.ow c)) ∧ u2 (st.set a (.ow (.dT (putD kvs k d1)))) fun _ y2 => ∃ kvs2 k2, (st.set a (.ow (.dT (putD kvs k d1))))[b]? = some (.ow (.dT kvs2)) ∧ y2 = keyD k2 ∧ kvs2.length < sizeLine ∧
        De.nx ((st.set a (.ow (.dT (putD kvs k d1)))).set b (.ow (.dT (putD kvs2 k2 d2))))) := by
  obtain ⟨t1, p1, q1⟩ := h1
  obtain ⟨t2, p2, q2⟩ := h2
  obtain ⟨s1, x1, z1⟩ := v1
  obtain ⟨s2, x2, z2⟩ := v2
  refine ⟨_, hp _ _ _ _ p1 p2 x1 x2, fun Av B gh H0 o σ st H E De hg F R hw K => ?_⟩
  obtain ⟨⟨ca, hca⟩, ⟨cb, hcb⟩, hw⟩ := hw
  refine q1 Av B gh H0 o σ st H _ _ hg F R hw fun f1 d1 w1' H1 k1 r1 hw1 => ?_
  have R1 := R.mono F k1
  refine q2 Av B gh H0 o σ st H1 _ _ hg F R1 hw1 fun f2 d2 w2' H2 k2 r2 hw2 => ?_
  have R2 := R1.mono F k2
  refine ⟨le_line (by simp), fun T hT => ?_⟩
  have k3 : Kp g H2 (upd H2 T (.tup [w1', w2'])) := Kp.new R2.kp.2 hT
  have R3 := R2.mono F k3
  have y1 := (r1.dr.mv (Mv.avo F k2)).mv (Mv.avo F k3)
  have y2 := r2.dr.mv (Mv.avo F k3)
  obtain ⟨ea, _, _, _, _, _⟩ := R3.ow a ca hca
  refine ⟨T, _, rfl, .inl (.inl upd_same), rfl, _, _, rfl, _, ea, ?_⟩
  refine z1 Av B gh H0 o σ st _ _ _ hg F R3 hw2 fun f3 m1 n1 H4 k4 r4 hd => ?_
  have R4 := R3.mono F k4
  have y1 := y1.mv (Mv.avo F k4)
  have y2 := y2.mv (Mv.avo F k4)
  obtain ⟨kvs, k, hi, rfl, hz, ⟨cb', hcb'⟩, hd⟩ := hd
  obtain ⟨_, _, _, u, e4, vs, rfl, rr⟩ := R4.ow a _ hi
  obtain ⟨q, rfl, eq⟩ := r4.keyD
  have R5 := R4.updOw F (ds' := .dT (putD kvs k d1)) hi ⟨_, rfl, rr.put y1⟩
  unfold L2.rSetD
  refine ⟨o a, _, rfl, DPut.t e4 eq (by rw [rr.len]; exact hz), ?_⟩
  have m5 : Mv (Avo Av B o st) (Avo Av B o (st.set a (.ow (.dT (putD kvs k d1))))) H4 (upd H4 (o a) (.dT (putK vs k w1'))) := ⟨fun x u' n e => ⟨fun z => n (by
      rcases z with z | ⟨l, es, a1, a2⟩
      · exact .inl z
      · by_cases c : l = a
        · subst c; exact .inr ⟨l, _, hi, a2⟩
        · rw [List.getElem?_set_ne (Ne.symm c)] at a1
          exact .inr ⟨l, es, a1, a2⟩), by
    have : x ≠ o a := fun z => n (.inr ⟨a, _, hi, z ▸ rfl⟩)
    rw [upd_ne this]; exact e⟩⟩
  have y2 := y2.mv m5
  obtain ⟨eb, _, _, _, _, _⟩ := R5.ow b cb' hcb'
  refine ⟨_, _, rfl, _, eb, ?_⟩
  refine z2 Av B gh H0 o σ _ _ _ _ hg F R5 hd fun f4 m2 n2 H5 k5 r5 hd2 => ?_
  have R6 := R5.mono F k5
  have y2 := y2.mv (Mv.avo F k5)
  obtain ⟨kvs2, k2', hi2, rfl, hz2, hn⟩ := hd2
  obtain ⟨_, _, _, u2', e5, vs2, rfl, rr2⟩ := R6.ow b _ hi2
  obtain ⟨q2', rfl, eq2⟩ := r5.keyD
  exact ⟨o b, _, rfl, DPut.t e5 eq2 (by rw [rr2.len]; exact hz2), rfl, K.nx o σ _ _ (R6.updOw F (ds' := .dT (putD kvs2 k2' d2)) hi2 ⟨_, rfl, rr2.put y2⟩) hn⟩
end
/-- xs.append(ys.pop(i)) -/
theorem ws_appPop {g : Gd} {X : Cx} {s : Stmt} {ei : Expr} {wi : WP} (i j : Nat) (hij : i ≠ j) (hi : WE g X ei wi) (hp : ∀ ti, PE X ei ti → PS X s (tDrop (tBM X.K "list" rAppend (tVar i) (tCons (tBM X.K "list" rPopAt (tVar j) (tCons ti tNil)) tNil)))) :
    WS g X s (fun De st => ∃ es ds, st[i]? = some (.own es) ∧ st[j]? = some (.own ds) ∧ wi st fun _ k => ∃ (n : Nat) (d : D), k = .int (n : Int) ∧ ds[n]? = some d ∧ n ≤ 1000 ∧ es.length < sizeLine ∧ De.nx ((st.set j (.own (ds.eraseIdx n))).set i (.own (es ++ [d])))) := by
  obtain ⟨t2, p2, q2⟩ := hi
  refine ⟨_, hp t2 p2, fun Av B gh H0 o σ st H E De hg F R hw K => ?_⟩
  obtain ⟨es, ds, hi, hj, hw⟩ := hw
  obtain ⟨a1, _, _, va, a3, _⟩ := R.own i es hi
  obtain ⟨b1, _, _, vb, b3, _⟩ := R.own j ds hj
  refine ⟨_, a1, .inl ⟨rfl, va, .inl (.inl a3)⟩, ?_⟩
  refine ⟨_, b1, .inl ⟨rfl, vb, .inl (.inl b3)⟩, q2 Av B gh H0 o σ st H _ _ hg F R hw fun fr k v1 H1 k1 r1 hd => ?_⟩
  obtain ⟨n, d, rfl, hd1, hn, hz, hd⟩ := hd
  have R1 := R.mono F k1
  obtain ⟨_, _, _, vs1, e4, r4⟩ := R1.own j ds hj
  have ev : v1 = .int (n : Int) := by cases r1.dr; rfl
  subst ev
  obtain ⟨x, hx, rx⟩ := r4.get hd1
  have hl : n < vs1.length := (List.getElem?_eq_some_iff.mp hx).1
  have R2 := R1.updOwn F hj (r4.erase n)
  have hi2 : (st.set j (Sl.own (ds.eraseIdx n)))[i]? = some (.own es) := by rw [List.getElem?_set_ne (Ne.symm hij)]; exact hi
  obtain ⟨_, _, _, vs2, e5, r5⟩ := R2.own i es hi2
  refine ⟨_, vs1, (n : Int), n, x, rfl, rfl, e4, by omega, by omega, ?_, hx, ?_⟩
  · unfold seqIndex?
    have h1 : ¬ ((n : Int) < 0) := by omega
    simp only [if_neg h1]
    have h2 : (decide (0 ≤ (n : Int)) && decide ((n : Int) < (vs1.length : Int))) = true := by simp; omega
    rw [if_pos h2, Int.toNat_natCast]
  · refine ⟨o i, vs2, x, rfl, rfl, e5, by rw [r5.length]; exact hz, K.nx o σ _ _ (R2.updOwn F hi2 (r5.app (.cons (rx.mv ⟨fun a u nn e => ⟨fun z => nn ?_, ?_⟩⟩) .nil))) hd⟩
    · rcases z with z | ⟨q, es, h1, h2⟩
      · exact .inl z
      · by_cases c : q = j
        · subst c; exact .inr ⟨q, _, hj, h2⟩
        · rw [List.getElem?_set_ne (Ne.symm c)] at h1
          exact .inr ⟨q, es, h1, h2⟩
    · have : a ≠ o j := fun z => nn (.inr ⟨j, _, hj, z ▸ rfl⟩)
      rw [upd_ne this]; exact e
end DW
namespace DW
open PySem PySem.Spec PyProof.Rows L2
/-! ### in, not in: items of any depth, in a list or a tuple; list.clear -/
theorem u65 {k : Nat} {A : Around} (r : Room k A) : A.units + 65 < cLine := by have := r.un; omega
def rMem (K : PySem.W.Frag) (neg : Bool) : R2 := fun x y H Q => ∃ d ds, Dp K H x d ∧ (Dp K H y (.list ds) ∨ Dp K H y (.tuple ds)) ∧ SeqAt.shaped d = true ∧ SeqAt.shaped (.list ds) = true ∧ Q (.bl (if neg then !ds.any fun z => PyData.eqv z d else ds.any fun z => PyData.eqv z d)) H
section
variable {X : Cx} {g : Gd}
theorem op_mem (hu : X.A.units + 65 < cLine) : OpR X (compareOp .In) (rMem X.K false) := by
  intro pins s σ H x y v u Q I rx ry h
  obtain ⟨d, ds, hd, he, sd, se, q⟩ := h
  obtain ⟨as, r1⟩ := Dp.reads I d x v hd rx
  rcases he with he | he
  · obtain ⟨bs, r2⟩ := Dp.reads I (.list ds) y u he ry
    exact SeqAt.in_list_reads r2 r1 (SeqAt.canLay_of_shaped se) (SeqAt.canLay_of_shaped sd) (room_in_shaped sd hu) ⟨.bl _, H, I, rfl, q⟩
  · obtain ⟨bs, r2⟩ := Dp.reads I (.tuple ds) y u he ry
    exact SeqAt.in_tuple_reads r2 r1 (SeqAt.canLay_of_shaped se) (SeqAt.canLay_of_shaped sd) (room_in_shaped sd hu) ⟨.bl _, H, I, rfl, q⟩
theorem op_nmem (hu : X.A.units + 65 < cLine) : OpR X (compareOp .NotIn) (rMem X.K true) := by
  intro pins s σ H x y v u Q I rx ry h
  obtain ⟨d, ds, hd, he, sd, se, q⟩ := h
  obtain ⟨as, r1⟩ := Dp.reads I d x v hd rx
  rcases he with he | he
  · obtain ⟨bs, r2⟩ := Dp.reads I (.list ds) y u he ry
    exact SeqAt.notIn_list_reads r2 r1 (SeqAt.canLay_of_shaped se) (SeqAt.canLay_of_shaped sd) (room_in_shaped sd hu) ⟨.bl _, H, I, rfl, q⟩
  · obtain ⟨bs, r2⟩ := Dp.reads I (.tuple ds) y u he ry
    exact SeqAt.notIn_tuple_reads r2 r1 (SeqAt.canLay_of_shaped se) (SeqAt.canLay_of_shaped sd) (room_in_shaped sd hu) ⟨.bl _, H, I, rfl, q⟩
def mMem (neg : Bool) : Sem2
  | x, .lst ys, Q => (x.tiny = true ∧ x.dep ≤ 60) ∧ ((D.lst ys).tiny = true ∧ (D.lst ys).dep ≤ 60) ∧ Q false (.bl (if neg then !(D.pyAll ys).any fun z => PyData.eqv z x.py else (D.pyAll ys).any fun z => PyData.eqv z x.py))
  | x, .tup ys, Q => (x.tiny = true ∧ x.dep ≤ 60) ∧ ((D.lst ys).tiny = true ∧ (D.lst ys).dep ≤ 60) ∧ Q false (.bl (if neg then !(D.pyAll ys).any fun z => PyData.eqv z x.py else (D.pyAll ys).any fun z => PyData.eqv z x.py))
  | _, _, _ => False
theorem s2_mem {neg : Bool} : S2 g (rMem X.K neg) (mMem neg) := by
  intro Avs Av H x y vx vy Q Qd F rx ry hm hk
  cases y <;> simp only [mMem] at hm
  case lst ys =>
    obtain ⟨⟨a, b⟩, ⟨c, d⟩, q⟩ := hm
    have e := tiny_shaped c d
    simp only [D.py] at e
    have y := ry.dp (K := X.K) c
    simp only [D.py] at y
    exact ⟨x.py, D.pyAll ys, rx.dp a, .inl y, tiny_shaped a b, e, hk false _ _ H (Kp.refl F.gg) (.old (.bl _)) q⟩
  case tup ys =>
    obtain ⟨⟨a, b⟩, ⟨c, d⟩, q⟩ := hm
    have e := tiny_shaped c d
    simp only [D.py] at e
    have y := ry.dp (K := X.K) (d := .tup ys) (by simpa [D.tiny] using c)
    simp only [D.py] at y
    exact ⟨x.py, D.pyAll ys, rx.dp a, .inr y, tiny_shaped a b, e, hk false _ _ H (Kp.refl F.gg) (.old (.bl _)) q⟩
end
def mClear : SemM | ds, [], Q => Q [] | _, _, _ => False
theorem sm_clear {K : PySem.W.Frag} : SM K rClear mClear := by
  intro Avs Av H p vs ds as es Q Qd hp r ra hm hk
  unfold mClear at hm
  split at hm
  · cases ra
    exact ⟨p, vs, rfl, rfl, hp, hk _ _ .nil hm⟩
  · exact hm.elim
/-! ### x not in o by the class's own __contains__ -/
def rNotInO (C : Addr) (sp : Sp) (E : XK) : R2 := fun x y H Q => ∃ b dx gs, y = .ref b ∧ H b = some (.ins C dx gs) ∧ sp [y, x] H (fun v H' => ∃ k, v = .bl k ∧ Q (.bl (!k)) H') E
theorem op_notInO {X : Cx} {CX : CXT} {n : Nat} {C f : Addr} {fd : FuncData} {ps : List Str} {sp : Sp} {E : XK} (F : FnOk X.prog X.w X.K X.mg X.base CX n f fd ps sp)
    (hs : PySem.W.findIn X.K (.ref C) "__contains__" = some (some (.ref f))) (hf : PySem.W.isFn X.K (.ref f) = true) (hb : Binds X.K fd ps []) (hx : Passes CX X E) (hr : Room n X.A) : OpR X (compareOp .NotIn) (rNotInO C sp E) := by
  intro pins s σ H x y u v Q I rx ry d
  obtain ⟨b, dx, gs, rfl, hb', hsp⟩ := d
  cases ry
  obtain ⟨mB, J, _⟩ := ins_get I.hok hb'
  obtain ⟨od, J, _⟩ := J.look
  show wpAny (model X.prog X.w) X.A (contains (.ref b) u >>= fun r => pure (Value.bool !r)) (EP X pins σ Q) X.xe s
  refine wpAny_bind ?_
  unfold contains
  refine wpAny_holding ?_
  show wpAny _ _ (specialOf (.ref b) "__contains__" >>= _) _ _ _
  refine wpAny_bind (wpAny_bind (J.type.here ((PySem.W.looks_findIn I.kIn hs).here ?_)))
  refine PySem.W.KFB.if_not rfl ?_
  refine wpAny_bind (special_un I.kIn J hs (beq_iff_eq.mp hf) ?_)
  have hl := F.len _ _ _ _ hsp
  refine wpAny_call (codeAny_mono (F.run X.A X.stack s H ⟨[.ref b, u], []⟩ [.ref b, u] [.ref b, x] _ E hr I.env0 (by
    have := hb s [.ref b, u] I.kIn (by simpa using hl)
    simpa using this) (.cons rfl (.cons rx .nil)) hsp) fun r s' hq => ?_)
  cases r with
  | error e => exact hx pins σ H s e s' I hq
  | ok fl =>
    cases fl with
    | ret w =>
      obtain ⟨z, H', I', rz, k, ez, q⟩ := I.after hq
      subst ez
      cases rz
      exact wpAny_truthy_bool (wpAny_pure ⟨.bl !k, H', I', rfl, q⟩)
    | next => exact False.elim hq
    | brk => exact False.elim hq
    | cont => exact False.elim hq
def mNotInO (C : Addr) (SP : List D → RQ → Prop) : Sem2 := fun x y Q => x.isC = false ∧ ∃ gs, y = .obj C gs ∧ SP [y, x] fun _ d => ∃ k, d = .bl k ∧ Q false (.bl (!k))
theorem s2_notInO {g : Gd} {C : Addr} {SP : List D → RQ → Prop} : S2 g (rNotInO C (spOf g 2 SP) E0) (mNotInO C SP) := by
  intro Avs Av H x y vx vy Q Qd F rx ry hm hk
  obtain ⟨hc, gs, rfl, hm⟩ := hm
  have r1 := rx.dr hc
  have r2 := ry.dr (by simp)
  cases id r2 with
  | obj n2 e2 q2 =>
    refine ⟨_, _, _, rfl, e2, rfl, Avs, _, _, F.gg, ⟨F.t1, F.tr⟩, .cons r2 (.cons r1 .nil), hm, ?_⟩
    rintro fr d v H' k r ⟨c, rfl, hq⟩
    have r := r.dr
    cases r
    exact ⟨c, rfl, hk false _ _ H' k (.old (.bl _)) hq⟩
end DW
/-! ### sorted(t), t a tuple of ints -/
namespace SrtT
open PySem PyProof.Rows Srt SrtO
section
variable {prog : Program} {w : World} {A : Around} {E : Value → Shared → Prop} {s : Shared}
theorem sorted_tup {t : Addr} {o : Obj} {us : List Value} {k : Nat} {lt : Value → Value → Bool} {Q : Value → Shared → Prop} (O : Swo lt) (ho : s.heap.get? t = some o) (hc : o.cls = .type "tuple") (hd : o.data = .seq us.toArray k) (hz : us.length ≤ sizeLine)
    (hS : 2 ≤ us.length → ∀ (g : Heap) (a : Addr), SortableO prog w A.in1.in1 { s with heap := g } a us lt)
    (fin : ∀ (out : List Value) (g : Heap) (p : Addr) (e : Nat), Srtd lt out → Stb lt out us → (∀ b u, s.heap.get? b = some u → g.get? b = some u) → s.heap.get? p = none → g.get? p = some (seqObj "list" out.toArray e) → Q (.ref p) { s with heap := g }) :
    wpAny (model prog w) A (call (.builtin "sorted") [.ref t]) Q E s := by
  refine Calls.call_function_entry kind_sorted plain_sorted entry_sorted (args_sorted1 _) ?_
  unfold Builtin.«sorted»
  refine wpAny_bind (m := checkCount "sorted" 1 1 _) (wpAny_pure ?_)
  refine wpAny_bind (wpAny_collect_seq t (T := "tuple") (.inr rfl) ho hc hd (fun g1 k1 => ?_) (by simpa using hz))
  rw [List.toList_toArray]
  refine wpAny_bind (wpAny_newList ?_ hz)
  have hp : (g1.push (seqObj "list" us.toArray 0)).get? g1.objs.size = some (seqObj "list" us.toArray 0) := Heap.get?_push_size _ rfl
  have hle : s.heap.get? g1.objs.size = none := by
    cases z : s.heap.get? g1.objs.size with
    | none => rfl
    | some u => exact absurd (Heap.lt_size (k1 _ _ z)) (Nat.lt_irrefl _)
  refine wpAny_bind (wpAny_holding (wpAny_call_entry slot_list_sort ⟨_, hp, rfl⟩ entry_list_sort (list_sort_ord O hp hz (fun h2 => hS h2 _ _) fun out hs hb => ⟨_, rfl, ?_⟩) (args_list_sort _)))
  obtain ⟨e, he⟩ := sortedHeap_at (out := out.toArray) hp
  refine wpAny_pure ⟨_, rfl, fin out _ _ e hs hb (fun b u hu => ?_) hle he⟩
  have lt1 := Heap.lt_size (k1 _ _ hu)
  rw [sortedHeap_old (Nat.ne_of_lt lt1) (by rw [size_push']; exact Nat.lt_succ_of_lt lt1)]
  exact Heap.get?_push_of_some _ (k1 _ _ hu)
end
end SrtT
namespace DW
open PySem PySem.Spec PyProof.Rows L2
theorem ok_some {P : Program} {w : World} {H : Hp} {h : Heap} {a : Addr} {o : HO} (x : ObjOk P w H h a o) : ∃ u, h.get? a = some u := by
  cases o with
  | lst xs => obtain ⟨_, _, _, _, e⟩ := x; exact ⟨_, e⟩
  | tup xs => obtain ⟨_, _, _, o, e, _⟩ := x; exact ⟨_, e⟩
  | dK kvs => obtain ⟨_, _, _, _, o, _, _, e, _⟩ := x; exact ⟨_, e⟩
  | dT kvs => obtain ⟨_, _, _, _, o, _, _, e, _⟩ := x; exact ⟨_, e⟩
  | set S n => obtain ⟨o, _, _, _, e, _⟩ := x; exact ⟨_, e⟩
  | ins C dx fs => obtain ⟨_, _, _, e, _⟩ := x; exact ⟨_, e⟩
  | own y => obtain ⟨_, e⟩ := x; exact ⟨_, e⟩
  | xd fs => obtain ⟨_, ⟨_, _, _, e, _⟩, _⟩ := x; exact ⟨_, e⟩
  | rng lo hi => obtain ⟨_, _, _, e⟩ := x; exact ⟨_, e⟩
  | frz ob u => obtain ⟨e, _⟩ := x; exact ⟨_, e⟩
  | tbl ps => exact ⟨_, (show h.get? a = some _ from x)⟩
  | met f y => exact ⟨_, (show h.get? a = some _ from x)⟩
  | ext φ => obtain ⟨_, e, _⟩ := x; exact e
def rSortTup (K : PySem.W.Frag) : List V → Hp → VK → Prop := fun vs H Q => ∃ (a : Addr) (ns : List Int), vs = [V.ref a] ∧ SqT K H a (ns.map V.int) ∧
  ∀ (ms : List Int) (p : Addr), ms.Perm ns → ms.Pairwise (· ≤ ·) → H p = none → Q (.ref p) (upd H p (.lst (ms.map V.int)))
theorem cr_sortTup {X : Cx} : CallR X (.builtin "sorted") (rSortTup X.K) := by
  intro pins s σ H vs us Q I r h
  obtain ⟨t, ns, rfl, ht, q⟩ := h
  obtain ⟨its, rv, tt, hz⟩ := I.tuple ht
  rw [Vals.ref1 r]
  have hi := rv.ints
  obtain ⟨o, ho, hc, k, hd⟩ := tt
  refine SrtT.sorted_tup SrtO.swo_int ho hc hd (by rw [← rv.length]; exact hz) (fun h2 g a => SrtO.ints_sortable hi h2) fun out g p e h1 h2 old new at_ => ?_
  obtain ⟨k1, k2, k3⟩ := SrtO.ints_out hi h1 h2
  have hp : H p = none := by
    cases z : H p with
    | none => rfl
    | some u =>
      obtain ⟨ob, hob⟩ := ok_some (I.hok p u z)
      rw [new] at hob
      cases hob
  have len : ((out.map SrtO.iv).map V.int).length ≤ sizeLine := by
    rw [List.length_map, k2.length_eq]
    rw [List.length_map] at hz
    exact hz
  exact ⟨.ref p, upd H p (.lst ((out.map SrtO.iv).map V.int)), I.laidN (t' := s.toks) old new hp ⟨len, out, e, vals_of_ints k1, at_⟩, rfl, q _ _ k2 k3 hp⟩
def mSortTup : SemC := fun ds Q => ∃ ns : List Int, ds = [.tup (ns.map D.int)] ∧ ∀ ms : List Int, ms.Perm ns → ms.Pairwise (· ≤ ·) → Q true (.lst (ms.map D.int))
theorem sc_sortTup {g : Gd} {X : Cx} : SC g (rSortTup X.K) mSortTup := by
  rintro Avs Av H ds vs Q Qd F r ⟨bs, rfl, hm⟩ hk
  obtain ⟨v, rfl, y⟩ := r.one
  obtain ⟨p, ws, rfl, e, q, _⟩ := y.tup
  cases q.ints
  exact ⟨p, bs, rfl, .inl (.inl e), fun ms p' h1 h2 hp => let ⟨k, z⟩ := F.lst (drs_ints ms) hp; hk _ _ _ _ k z (hm ms h1 h2)⟩
end DW
namespace DW
open PySem PySem.Spec PyProof.Rows L2
/-! ### two ways to read one expression, one test -/
theorem we_alt {g : Gd} {X : Cx} {e : Expr} {w1 w2 : WP} (h1 : WE g X e w1) (h2 : WE g X e w2) : WE g X e (fun st Q => w1 st Q ∨ w2 st Q) := by
  obtain ⟨t1, p1, q1⟩ := h1
  obtain ⟨t2, p2, q2⟩ := h2
  refine ⟨fun σ H Q => t1 σ H Q ∨ t2 σ H Q, ⟨fun pins s σ H Q I h => h.elim (p1.run pins s σ H Q I) (p2.run pins s σ H Q I)⟩, fun Av B gh H0 o σ st H Q Qd hg F R hw hk => ?_⟩
  rcases hw with hw | hw
  · exact .inl (q1 Av B gh H0 o σ st H Q Qd hg F R hw hk)
  · exact .inr (q2 Av B gh H0 o σ st H Q Qd hg F R hw hk)
theorem wt_alt {g : Gd} {X : Cx} {e : Expr} {w1 w2 : WPT} (h1 : WT g X e w1) (h2 : WT g X e w2) : WT g X e (fun st Q => w1 st Q ∨ w2 st Q) := by
  obtain ⟨t1, p1, q1⟩ := h1
  obtain ⟨t2, p2, q2⟩ := h2
  refine ⟨fun σ H Q => t1 σ H Q ∨ t2 σ H Q, ⟨fun pins s σ H Q I h => h.elim (p1.run pins s σ H Q I) (p2.run pins s σ H Q I)⟩, fun Av B gh H0 o σ st H Q Qd hg F R hw hk => ?_⟩
  rcases hw with hw | hw
  · exact .inl (q1 Av B gh H0 o σ st H Q Qd hg F R hw hk)
  · exact .inr (q2 Av B gh H0 o σ st H Q Qd hg F R hw hk)
end DW
namespace DW
open PySem PySem.Spec PyProof.Rows L2
/-! ### one's own list is read while an expression is worked out, and is one's own again behind it -/
def D.freeable (fr : Bool) (d : D) : Prop := d.imm = true ∨ (fr = true ∧ ∃ ys, d = .lst ys ∧ D.immAll ys = true)
section
variable {g : Gd} {X : Cx} {tg iter elt : Expr} {ifs : List Expr} {scope : Scope} {pos : Pos} {own : List (Str × Nat)} {wi : WPI} {bn : WPG} {tt : WPT} {te : WP}
theorem Res.thaw {Av B : Addr → Prop} {gh : V → D → Prop} {H0 H H1 : Hp} {o : Nat → Addr} {σ : L2.St} {st : Sx} {j : Nat} {c0 : Ct} {v : V} {fr : Bool} {d : D} (F : FrOk g Av H0) (R : Rel g Av B gh H0 o σ st H) (e : st[j]? = some (.ow c0)) (k : Kp g H H1)
    (r : Res (Avo Av B o (st.set j (.val c0.d))) H v fr d H1) (hd : D.freeable fr d) : Res (Avo Av B o st) H v fr d H1 := by
  have R1 := R.mono F k
  obtain ⟨_, q2, q3, u0, q4, q5⟩ := R.ow j c0 e
  obtain ⟨_, _, _, u1, p4, p5⟩ := R1.ow j c0 e
  have back : ∀ a, Avo Av B o st a → Avo Av B o (st.set j (.val c0.d)) a ∨ a = o j := fun a z => by
    rcases z with z | ⟨i, c, e1, e2⟩
    · exact .inl (.inl z)
    · by_cases q : i = j
      · exact .inr (by rw [← e2, q])
      · exact .inl (.inr ⟨i, c, by rw [List.getElem?_set_ne (Ne.symm q)]; exact e1, e2⟩)
  have lists : ∀ a, Avo Av B o st a → ¬ Avo Av B o (st.set j (.val c0.d)) a → ∃ u, H1 a = some u ∧ Mt u := fun a z n => by
    rcases back a z with q | q
    · exact absurd q n
    · subst q; exact ⟨u1, p4, p5.mt⟩
  have lists2 : ∀ p, H p = none → ∀ a, (Avo Av B o st a ∨ a = p) → ¬ (Avo Av B o (st.set j (.val c0.d)) a ∨ a = p) → ∃ u, H1 a = some u ∧ Mt u := fun p hp a z n => by
    rcases z with z | z
    · exact lists a z fun q => n (.inl q)
    · exact absurd (.inr z) n
  rcases hd with hi | ⟨rfl, ys, rfl, hi⟩
  · refine ⟨DR.imm lists r.dr hi, fun hf => ?_⟩
    obtain ⟨p, vs, ds, _, e2, _⟩ := r.new hf
    subst e2
    simp [D.imm] at hi
  · obtain ⟨p, vs, ds, rfl, e2, e3, e4, e5⟩ := r.new rfl
    cases e2
    have np : ¬ Avo Av B o st p := fun z => by
      rcases z with z | ⟨i, c, e1, e2⟩
      · have := R.kp.2
        rcases z with z | z
        · have nt := F.tr p z
          cases q : H0 p with
          | none => exact absurd q nt.1
          | some w =>
            by_cases hw : g.W p
            · exact absurd e3 (g.tr H R.kp.2 p (g.wt p hw)).1
            · have := R.kp.1 p w q hw
              rw [e3] at this; cases this
        · exact (R.bt p z).1.1 e3
      · obtain ⟨_, _, _, u, e4', _⟩ := R.ow i c e1
        rw [e2, e3] at e4'; cases e4'
    have dr := DRs.imm (Av' := fun a => Avo Av B o st a ∨ a = p) (lists2 p e3) e5 hi
    exact ⟨.lst np e4 (dr.mv ⟨fun a u n e => ⟨fun z => n (.inl z), e⟩⟩), fun _ => ⟨p, vs, ys, rfl, rfl, e3, e4, dr⟩⟩
theorem we_thaw (j : Nat) {e : Expr} {w : WP} (h : WE g X e w) : WE g X e (fun st Q => ∃ c0, st[j]? = some (.ow c0) ∧ w (st.set j (.val c0.d)) fun fr d => D.freeable fr d ∧ Q fr d) := by
  obtain ⟨t, p, q⟩ := h
  refine ⟨t, p, fun Av B gh H0 o σ st H Q Qd hg F R hw hk => ?_⟩
  obtain ⟨c0, e, hw⟩ := hw
  exact q Av B gh H0 o σ _ H _ _ hg F (R.frz F e) hw fun fr d v H1 k1 r1 hd => hk fr d v H1 k1 (Res.thaw F R e k1 r1 hd.1) hd.2
theorem ws_setLcT (j i : Nat) {y : Str} {py spos : Pos} (k : Bool) (hc : X.calm = true) (hN : X.N.Nodup) (hy : X.N[i]? = some y) (hyl : X.env.scope.names.lookup y = some .local)
    (hsw : swapsWith (.ListComp elt [⟨tg, iter, ifs, 0⟩] scope pos) (some (.Name y py)) spos.line X.env = pure true)
    (hi : WI g X tg iter wi) (ok : BlkOk X.N X.env.scope scope own) (hg : ∀ i : Blks X scope, WG g (blkX X scope i) tg (own.map (·.2)) bn) (ht : ∀ i : Blks X scope, WTs g (blkX X scope i) ifs tt)
    (he : ∀ i : Blks X scope, WE g (blkX X scope i) elt te) (hs : ∀ x, foldedSetIterable iter X.env x = pure x := by intro _; rfl) :
    WS g X (.Assign [.Name y py] (.ListComp elt [⟨tg, iter, ifs, 0⟩] scope pos) spos) (fun De st => ∃ c0, st[j]? = some (.ow c0) ∧ wi (st.set j (.val c0.d)) fun ds => ds.length < sizeLine ∧ wLc bn tt te (wipeS (st.set j (.val c0.d)) (own.map (·.2))) ds fun ys => D.immAll ys = true ∧ De.nx (st.set i (if k = true then .own ys else .val (.lst ys)))) := by
  obtain ⟨ti, pi, qi⟩ := hi
  obtain ⟨⟨tb, pb, qb⟩, ⟨tT, pt, qt⟩, ⟨tE, pe, qe⟩⟩ := lc_parts hg ht he
  refine ⟨_, ps_setLc hc hN hy hyl hsw pi ok (fun s H C cl fp => pb (s, H, C, cl, fp)) (fun s H C cl fp => pt (s, H, C, cl, fp)) (fun s H C cl fp => pe (s, H, C, cl, fp)) hs, ?_⟩
  intro Av B gh H0 o σ st H E De hg F R hw K
  obtain ⟨c0, e, hw⟩ := hw
  refine lc_snd (Qd := fun fr d => fr = true ∧ ∃ ys, d = .lst ys ∧ D.immAll ys = true ∧ De.nx (st.set i (if k = true then .own ys else .val (.lst ys)))) _ qi qb qt qe Av B gh H0 o σ (st.set j (.val c0.d)) H _ hg F (R.frz F e) ?_ fun fr d v H1 k1 r1 hd => ?_
  · have e2 : (fun ys : List D => (true = true ∧ ∃ zs, D.lst ys = .lst zs ∧ D.immAll zs = true ∧ De.nx (st.set i (if k = true then .own zs else .val (.lst zs))))) = fun ys => D.immAll ys = true ∧ De.nx (st.set i (if k = true then .own ys else .val (.lst ys))) := by
      funext ys
      apply propext
      constructor
      · rintro ⟨_, zs, e, h⟩; cases e; exact h
      · intro h; exact ⟨rfl, ys, rfl, h⟩
    have e3 : (fun ds : List D => ds.length < sizeLine ∧ wLc bn tt te (wipeS (st.set j (.val c0.d)) (own.map (·.2))) ds fun ys => (true = true ∧ ∃ zs, D.lst ys = .lst zs ∧ D.immAll zs = true ∧ De.nx (st.set i (if k = true then .own zs else .val (.lst zs))))) =
        (fun ds : List D => ds.length < sizeLine ∧ wLc bn tt te (wipeS (st.set j (.val c0.d)) (own.map (·.2))) ds fun ys => D.immAll ys = true ∧ De.nx (st.set i (if k = true then .own ys else .val (.lst ys)))) := by rw [e2]
    rw [e3]; exact hw
  · obtain ⟨rfl, ys, rfl, hi, hd⟩ := hd
    have r2 := Res.thaw F R e k1 r1 (.inr ⟨rfl, ys, rfl, hi⟩)
    cases k with
    | true =>
      obtain ⟨o', R'⟩ := R.ownRes F hg k1 r2 i
      exact K.nx o' _ _ H1 R' (by simpa using hd)
    | false => exact K.nx o _ _ H1 ((R.mono F k1).setVal i r2.dr) (by simpa using hd)
end
end DW
namespace DW
open PySem PySem.Spec PyProof.Rows L2
/-! ### ~o by the class's own __invert__ -/
def rInvO (sp : Sp) (C : Addr) (E : XK) : V → Hp → VK → Prop := fun x H Q => ∃ b dx gs, x = .ref b ∧ H b = some (.ins C dx gs) ∧ sp [x] H Q E
section
variable {X : Cx} {CX : CXT} {n : Nat} {C f : Addr} {fd : FuncData} {ps : List Str} {sp : Sp} {E : XK}
theorem un_invO (F : FnOk X.prog X.w X.K X.mg X.base CX n f fd ps sp) (hs : PySem.W.findIn X.K (.ref C) "__invert__" = some (some (.ref f))) (hf : PySem.W.isFn X.K (.ref f) = true) (hb : Binds X.K fd ps [])
    (hx : Passes CX X E) (hr : Room n X.A) : UnR X (unaryOp .Invert) (rInvO sp C E) := by
  intro pins s σ H x v Q I rx d
  obtain ⟨b, dx, gs, rfl, hb', hsp⟩ := d
  cases rx
  obtain ⟨mB, J, _⟩ := ins_get I.hok hb'
  obtain ⟨od, J, _⟩ := J.look
  unfold unaryOp
  refine wpAny_holding ?_
  have hl := F.len _ _ _ _ hsp
  show wpAny _ _ (callSpecial? (.ref b) (Str.ofString "__invert__") >>= _) _ _ _
  refine wpAny_bind (PySem.W.special_fn I.kIn J hs (beq_iff_eq.mp hf) ?_)
  refine wpAny_call (codeAny_mono (F.run X.A X.stack s H ⟨[.ref b], []⟩ [.ref b] [.ref b] _ E hr I.env0 (by
    have := hb s [.ref b] I.kIn (by simpa using hl)
    simpa using this) (.cons rfl .nil) hsp) fun r s' hq => ?_)
  cases r with
  | error e => exact hx pins σ H s e s' I hq
  | ok fl =>
    cases fl with
    | ret w => exact wpAny_pure (I.after hq)
    | next => exact False.elim hq
    | brk => exact False.elim hq
    | cont => exact False.elim hq
end
theorem we_invO {g : Gd} {X : Cx} {e : Expr} {pos : Pos} {w : WP} {C : Addr} {SP : List D → RQ → Prop} (h : WE g X e w) (ho : UnR X (unaryOp .Invert) (rInvO (spOf g 1 SP) C E0)) : WE g X (.UnaryOp .Invert e pos) (fun st Q => w st fun _ d => ∃ fs, d = .obj C fs ∧ SP [d] Q) := by
  obtain ⟨t, p, q⟩ := h
  refine ⟨_, pe_un ho p, fun Av B gh H0 o σ st H Q Qd hg F R hw hk => ?_⟩
  refine q Av B gh H0 o σ st H _ _ hg F R hw fun fr d v H1 k1 r1 hd => ?_
  obtain ⟨fs, rfl, hd⟩ := hd
  have z := r1.dr
  cases id z with
  | obj na ea rf =>
    have R1 := R.mono F k1
    exact ⟨_, _, _, rfl, ea, rfl, Avo Av B o st, [_], Qd, k1.2, R1.frok F, .cons z .nil, hd, fun fr2 d2 v2 H' k r hq => hk fr2 d2 v2 H' (k1.trans k) (r.back R.kp.2 k1) hq⟩
end DW
namespace DW
open PySem PySem.Spec PyProof.Rows L2
section
variable {g : Gd} {X : Cx} {tg iter elt tg1 iter1 : Expr} {ifs ifs1 : List Expr} {scope : Scope} {pos : Pos} {own : List (Str × Nat)} {wi wi1 : WPI} {bn bn1 : WPG} {tt tt1 : WPT} {te : WP}
/-- name = [.. for .. for ..] -/
theorem ws_setLc2 (js1 : List Nat) (i : Nat) {y : Str} {py spos : Pos} (k : Bool) (hc : X.calm = true) (hN : X.N.Nodup) (hy : X.N[i]? = some y) (hyl : X.env.scope.names.lookup y = some .local)
    (hsw : swapsWith (.ListComp elt [⟨tg, iter, ifs, 0⟩, ⟨tg1, iter1, ifs1, 0⟩] scope pos) (some (.Name y py)) spos.line X.env = pure true)
    (hv : ∀ i ∈ js1, i ∈ own.map (·.2)) (hi : WI g X tg iter wi) (ok : BlkOk X.N X.env.scope scope own) (hg : ∀ i : Blks X scope, WG g (blkX X scope i) tg (own.map (·.2)) bn)
    (ht : ∀ i : Blks X scope, WTs g (blkX X scope i) ifs tt) (hi1 : ∀ i : Blks X scope, WI g (blkX X scope i) tg1 iter1 wi1) (hg1 : ∀ i : Blks X scope, WG g (blkX X scope i) tg1 js1 bn1) (ht1 : ∀ i : Blks X scope, WTs g (blkX X scope i) ifs1 tt1)
    (he : ∀ i : Blks X scope, WE g (blkX X scope i) elt te) (hs : ∀ x, foldedSetIterable iter X.env x = pure x := by intro _; rfl) (hs1 : ∀ env x, foldedSetIterable iter1 env x = pure x := by intro _ _; rfl) :
    WS g X (.Assign [.Name y py] (.ListComp elt [⟨tg, iter, ifs, 0⟩, ⟨tg1, iter1, ifs1, 0⟩] scope pos) spos) (fun De st => wi st fun ds => ds.length ≤ 1000 ∧ wLc2 bn tt wi1 bn1 tt1 te js1 (wipeS st (own.map (·.2))) ds fun ys => De.nx (st.set i (if k = true then .own ys else .val (.lst ys)))) := by
  obtain ⟨ti, pi, qi⟩ := hi
  obtain ⟨⟨tb, pb, qb⟩, ⟨tT, pt, qt⟩, ⟨tE, pe, qe⟩⟩ := lc_parts hg ht he
  obtain ⟨ti1, pi1, qi1⟩ := wi_uni hi1
  obtain ⟨⟨tb1, pb1, qb1⟩, ⟨tT1, pt1, qt1⟩, _⟩ := lc_parts hg1 ht1 he
  refine ⟨_, ps_setLc2 hc hN hy hyl hsw pi ok hv (fun s H C cl fp => pb (s, H, C, cl, fp)) (fun s H C cl fp => pt (s, H, C, cl, fp)) (fun s H C cl fp => pi1 (s, H, C, cl, fp)) (fun s H C cl fp => pb1 (s, H, C, cl, fp)) (fun s H C cl fp => pt1 (s, H, C, cl, fp)) (fun s H C cl fp => pe (s, H, C, cl, fp)) hs hs1, ?_⟩
  intro Av B gh H0 o σ st H E De hg F R hw K
  refine lc2_snd _ js1 qi qb qt qi1 qb1 qt1 qe Av B gh H0 o σ st H _ (fun fr d => fr = true ∧ ∃ ys, d = .lst ys ∧ De.nx (st.set i (if k = true then .own ys else .val (.lst ys)))) hg F R ?_ fun fr d v H1 k1 r1 hd => ?_
  · have e2 : (fun ys : List D => (true = true ∧ ∃ zs, D.lst ys = .lst zs ∧ De.nx (st.set i (if k = true then .own zs else .val (.lst zs))))) = fun ys => De.nx (st.set i (if k = true then .own ys else .val (.lst ys))) := by
      funext ys
      apply propext
      constructor
      · rintro ⟨_, zs, e, h⟩; cases e; exact h
      · intro h; exact ⟨rfl, ys, rfl, h⟩
    have e3 : (fun ds : List D => ds.length ≤ 1000 ∧ wLc2 bn tt wi1 bn1 tt1 te js1 (wipeS st (own.map (·.2))) ds fun ys => (true = true ∧ ∃ zs, D.lst ys = .lst zs ∧ De.nx (st.set i (if k = true then .own zs else .val (.lst zs))))) =
        (fun ds : List D => ds.length ≤ 1000 ∧ wLc2 bn tt wi1 bn1 tt1 te js1 (wipeS st (own.map (·.2))) ds fun ys => De.nx (st.set i (if k = true then .own ys else .val (.lst ys)))) := by rw [e2]
    show wi st (fun ds : List D => ds.length ≤ 1000 ∧ wLc2 bn tt wi1 bn1 tt1 te js1 (wipeS st (own.map (·.2))) ds fun ys => (true = true ∧ ∃ zs, D.lst ys = .lst zs ∧ De.nx (st.set i (if k = true then .own zs else .val (.lst zs)))))
    rw [e3]; exact hw
  · obtain ⟨rfl, ys, rfl, hd⟩ := hd
    cases k with
    | true =>
      obtain ⟨o', R'⟩ := R.ownRes F hg k1 r1 i
      exact K.nx o' _ _ H1 R' (by simpa using hd)
    | false => exact K.nx o _ _ H1 ((R.mono F k1).setVal i r1.dr) (by simpa using hd)
end
/-- xs.index(p), ints, p among them -/
theorem we_index {g : Gd} {X : Cx} {e eo ex : Expr} {wo wx : WP} (ho : WR g X eo wo) (hx : WE g X ex wx) (hp : ∀ t0 t1, PE X eo t0 → PE X ex t1 → PE X e (tBM X.K "list" (rIndex X.K) t0 (tCons t1 tNil))) :
    WE g X e (fun st Q => wo st fun _ d => ∃ os : List Int, d = .lst (os.map D.int) ∧ wx st fun _ y => ∃ (p : Int) (j : Nat), y = .int p ∧ os[j]? = some p ∧ (∀ m, m < j → os[m]? ≠ some p) ∧ Q false (.int (j : Int))) := by
  obtain ⟨t, p, q⟩ := ho
  obtain ⟨t2, p2, q2⟩ := hx
  refine ⟨_, hp t t2 p p2, fun Av B gh H0 o σ st H Q Qd hg F R hw hk => ?_⟩
  refine q Av B gh H0 o σ st H _ _ hg F R hw fun fr d v H1 k1 r1 hw1 => ?_
  obtain ⟨os, rfl, hw1⟩ := hw1
  obtain ⟨p0, vs0, rfl, e0, _⟩ := id r1.lst
  refine ⟨.inl ⟨rfl, vs0, .inl (.inl e0)⟩, ?_⟩
  refine q2 Av B gh H0 o σ st H1 _ _ hg F (R.mono F k1) hw1 fun fr2 d2 v2 H2 k2 r2 hd => ?_
  obtain ⟨x, j, rfl, h1, h2, hq⟩ := hd
  obtain ⟨p1, vs, e, e1, rr⟩ := (r1.mono (fun a h => Avo.ta F h) (fun a h => .inl (F.ta a h)) k2).lst
  cases rr.ints
  have ev : v2 = .int x := by cases r2.dr; rfl
  subst ev
  refine ⟨p1, _, .int x, j, .int x, e, rfl, .inl (.inl e1), rfl, ?_, by rw [List.getElem?_map, h1]; rfl, by simp [eqV], fun m z hm hz => ?_, ?_⟩
  · rw [List.all_map]; exact List.all_eq_true.mpr fun _ _ => rfl
  · rw [List.getElem?_map] at hz
    cases hv : os[m]? with
    | none => rw [hv] at hz; cases hz
    | some w =>
      rw [hv] at hz
      cases hz
      have : w ≠ x := fun q => h2 m hm (by rw [hv, q])
      simpa [eqV] using this
  · exact hk false _ _ H2 (k1.trans k2) (.old (.int _)) hq
end DW
namespace DW
open PySem PySem.Spec PyProof.Rows L2
/-! ### repr of longer data, by the bits of its numbers -/
def D.shw2 (d : D) : Prop := d.tiny = true ∧ d.dep ≤ 60 ∧ d.py.shown.length ≤ sizeLine
theorem D.shw.to2 {d : D} (h : d.shw) : d.shw2 := ⟨h.1, h.2.2, shw_len h⟩
def mRepr2 : SemC
  | [d], Q => d.shw2 ∧ Q false (.str d.shown)
  | _, _ => False
theorem sc_repr2 {g : Gd} {X : Cx} : SC g (rRepr X.K) mRepr2 := by
  intro Avs Av H ds vs Q Qd F r hm hk
  unfold mRepr2 at hm
  split at hm
  · obtain ⟨v, rfl, y⟩ := r.one
    obtain ⟨⟨a, b, c⟩, hm⟩ := hm
    obtain ⟨e1, e2, e3, e4, e5, e6⟩ := tiny_lay _ a
    exact ⟨v, _, rfl, y.dp a, e3, e4, by rw [e6]; exact b, c, hk _ _ _ H (Kp.refl F.gg) (.old (.str _)) hm⟩
  · exact hm.elim
structure Wg (W P : Nat) (d : D) : Prop where
  t : d.tiny = true
  w : d.py.weight ≤ W
  p : d.dep ≤ P
structure Wgs (W P : Nat) (d : List D) : Prop where
  t : D.tinyAll d = true
  w : PyData.weightAll (D.pyAll d) ≤ W
  p : D.depAll d ≤ P
theorem Wg.shw2 {W P : Nat} {d : D} (h : Wg W P d) (hw : W ≤ 390000 := by decide) (hp : P ≤ 60 := by decide) : d.shw2 := by
  refine ⟨h.t, Nat.le_trans h.p hp, ?_⟩
  obtain ⟨a, b, c, e, f, g⟩ := tiny_lay d h.t
  have q := PyData.shown_le 40 (by decide) d.py b
  have z : sizeLine = 16777216 := sizeLine_eq
  rw [z]
  have : (40 + 2) * d.py.weight ≤ 42 * 390000 := Nat.mul_le_mul (Nat.le_refl _) (Nat.le_trans h.w hw)
  omega
theorem wgt_int {i : Int} (h : i.natAbs < 16) : Wg 4 0 (.int i) := by
  refine ⟨decide_eq_true (Nat.lt_of_lt_of_le h (by decide)), ?_, Nat.le_refl _⟩
  simp only [D.py, PyData.weight]
  split
  · omega
  · rename_i z
    have nz : i.natAbs ≠ 0 := fun e => z (by simp; omega)
    have := (_root_.Nat.log2_lt nz).mpr (show i.natAbs < 2 ^ 4 by omega)
    omega
theorem wgt_bl {b : Bool} : Wg 0 0 (.bl b) := ⟨rfl, by simp [D.py, PyData.weight], Nat.le_refl _⟩
theorem wgs_nil : Wgs 0 0 [] := ⟨rfl, by simp [D.pyAll, PyData.weightAll], Nat.le_refl _⟩
theorem wgs_cons {W P W' P' : Nat} {d : D} {ds : List D} (h : Wg W P d) (r : Wgs W' P' ds) : Wgs (W + 1 + W') (max P P') (d :: ds) := ⟨by simp only [D.tinyAll, h.t, r.t, Bool.and_self], by
  have := h.w
  have := r.w
  simp only [D.pyAll, PyData.weightAll]
  omega, by
  have := h.p
  have := r.p
  show max d.dep (D.depAll ds) ≤ _
  omega⟩
theorem wgt_tup {W P : Nat} {ds : List D} (r : Wgs W P ds) : Wg W (P + 1) (.tup ds) := ⟨r.t, by simp only [D.py, PyData.weight]; exact r.w, Nat.succ_le_succ r.p⟩
theorem wgt_lst {W P : Nat} {ds : List D} (r : Wgs W P ds) : Wg W (P + 1) (.lst ds) := ⟨r.t, by simp only [D.py, PyData.weight]; exact r.w, Nat.succ_le_succ r.p⟩
theorem wgs_map {α : Type} {W P k : Nat} (f : α → D) : ∀ (xs : List α), (∀ x ∈ xs, Wg W P (f x)) → xs.length ≤ k → Wgs (k * (W + 1)) P (xs.map f)
  | [], _, _ => ⟨rfl, by simp [D.pyAll, PyData.weightAll], Nat.zero_le _⟩
  | x :: xs, h, l => by
    have r := wgs_map (k := xs.length) f xs (fun y hy => h y (List.mem_cons_of_mem _ hy)) (Nat.le_refl _)
    have c := wgs_cons (h x List.mem_cons_self) r
    refine ⟨c.t, Nat.le_trans c.w ?_, Nat.le_trans c.p (by omega)⟩
    have : (xs.length + 1) * (W + 1) ≤ k * (W + 1) := Nat.mul_le_mul_right _ l
    rw [Nat.succ_mul] at this
    omega
end DW
namespace DW
open PySem PySem.Spec PyProof.Rows L2
section
variable {g : Gd} {X : Cx} {e : Expr} {w : WP} {s : Stmt}
/-- name op= e, ints, any op -/
theorem ws_augF (f : Int → Int → Int) (i : Nat) (h : WE g X e w) (hp : ∀ te, PE X e te → PS X s (tAug i te (ipI f))) :
    WS g X s (fun De st => ∃ a, st[i]? = some (.val (.int a)) ∧ w st fun _ d => ∃ b, d = .int b ∧ De.nx (st.set i (.val (.int (f a b))))) := by
  obtain ⟨t, p, q⟩ := h
  refine ⟨_, hp t p, fun Av B gh H0 o σ st H E De hg F R hw K => ?_⟩
  obtain ⟨a, hi, hw⟩ := hw
  obtain ⟨v, e1, r⟩ := R.val i _ hi
  cases r
  refine ⟨_, e1, q Av B gh H0 o σ st H _ _ hg F R hw fun fr d v H1 k1 r1 hd => ?_⟩
  obtain ⟨b, rfl, hd⟩ := hd
  have ev : v = .int b := by cases r1.dr; rfl
  exact ⟨a, b, rfl, ev, K.nx o _ _ H1 ((R.mono F k1).setVal i (.int _)) hd⟩
end
end DW
/-! ### set(xs), xs a list of ints; sorted(set(xs)) -/
namespace L2
open PySem PySem.Spec PyProof.Rows
section
variable {P : Program} {w : World} {A : Around} {E : Value → Shared → Prop} {s : Shared}
/-- a set as it is made -/
def set0 (w : World) : Obj := { cls := .type "set", dict := none, data := .set #[] 0 (.fresh 0 0 (!w.params.followText "set-order")) }
/-- the end of filling: only the set and the iterator have changed -/
def Filled (w : World) (s : Shared) (ns : List Int) (r : Value) (s' : Shared) : Prop := r = .none ∧ ∃ (h' : Heap) (tk c : Nat), s' = { s with heap := h', toks := tk } ∧ SetR w h' s.heap.objs.size (fun j => decide (j ∈ ns)) c ∧ c ≤ ns.length ∧ ∀ b o, s.heap.get? b = some o → h'.get? b = some o
theorem fill_list {l : Addr} {items : Array Value} {ns : List Int} (hh : A.handled = none) (hl : s.heap.IsList l items) (hi : IntsAre items.toList ns) (hb : ns.length + 1 < scanBound) :
    codeAny (model P w) A (.call (.builtin "set.__init__") ⟨[.ref s.heap.objs.size, .ref l], []⟩) (wants (Filled w s ns) E) { s with heap := s.heap.push (set0 w) } := by
  have sz : items.size = ns.length := by
    have q := IntsAre.length hi
    rwa [Array.length_toList] at q
  have hS : (s.heap.push (set0 w)).get? s.heap.objs.size = some (set0 w) := Heap.get?_push_size _ rfl
  have hT : Shared.TypeIs { s with heap := s.heap.push (set0 w) } (.ref s.heap.objs.size) "set" := ⟨_, hS, rfl⟩
  refine codeAny_call_builtin F.called_set.init.plain F.entry_set_init (check_set_init_1 hT ?_)
  obtain ⟨⟨k0, d0, u0, sl0⟩, hol, hcl, nl, hdl⟩ := hl
  dsimp only at hcl hdl
  subst hcl hdl
  have g1 : (s.heap.push (set0 w)).get? l = some { cls := .type "list", dict := d0, data := .seq items nl, slots := sl0 } := Heap.get?_push_of_some _ hol
  have l1 : (s.heap.push (set0 w)).IsList l items := ⟨_, g1, rfl, nl, rfl⟩
  have f1 := F.sub_list_set
  have f2 := F.sub_list_frozenset
  have f3 : (Value.type "list" == Value.type "dict") = false := by decide
  unfold Builtin.«set.__init__» noKeywords Builtin.Frozenset.updateFrom
  generalize hPI : pyIter = PI
  wp_walk
  subst hPI
  refine wpAny_pyIter_list l1 ?_
  refine wpAny_bind (wpAny_runValue ?_)
  have lt := Heap.lt_size hol
  have zI : (s.heap.push (set0 w)).objs.size = s.heap.objs.size + 1 := Heap.size_push ..
  have h3 : A.in1.in1.handled = none := by simp [hh]
  have neI : l ≠ (s.heap.push (set0 w)).objs.size := by
    rw [zI]
    exact Nat.ne_of_lt (Nat.lt_succ_of_lt lt)
  have notS : s.heap.objs.size ∉ [(s.heap.push (set0 w)).objs.size, l] := by
    rw [zI]
    intro z
    rcases List.mem_cons.mp z with q | q
    · exact absurd q (Nat.ne_of_lt (Nat.lt_succ_self _))
    · exact absurd (List.mem_singleton.mp q) (Nat.ne_of_gt lt)
  have it : ∀ (i : Nat) (v : Value), items[i]? = some v → ∃ k t, ns[i]? = some k ∧ v = .int k t := fun i v hv => by
    have hlt : i < ns.length := by
      have := (Array.getElem?_eq_some_iff.mp hv).1
      omega
    obtain ⟨t, e⟩ := IntsAre.int_at hi i v (by rw [Array.getElem?_toList]; exact hv)
    exact ⟨ns[i], t, List.getElem?_eq_getElem hlt, by rw [e, List.getD_eq_getElem?_getD, List.getElem?_eq_getElem hlt] <;> rfl⟩
  have fresh : SetR w ((s.heap.push (set0 w)).push { cls := .type "list_iterator", data := .fields #[.ref l, .int 0 0] }) s.heap.objs.size (fun j => decide (j ∈ ns.take 0)) 0 := setR_new_at (Heap.get?_push_of_some _ hS)
  refine set_update_ints ((Walks.list h3 _ l neI items).toS) s.heap.objs.size notS ns sz hb it (items.size - 0) 0 _ (by omega) (Nat.zero_le _) ?at0 ?start ?stop
  case at0 => exact ⟨⟨_, Heap.get?_push_size _ rfl, rfl, rfl⟩, l1.push _⟩
  case start => exact ⟨0, Nat.le_refl 0, fresh⟩
  case stop =>
    rintro ⟨h', g', d', tk, os'⟩ c hm hc hR
    obtain rfl : g' = s.gens := hm.gens
    obtain rfl : d' = s.drawn := hm.drawn
    obtain rfl : os' = s.os := hm.os
    refine wpAny_pure (wpAny_pure ?_)
    refine ⟨rfl, h', tk, c, rfl, hR, by omega, fun b o e => ?_⟩
    have b0 := Heap.lt_size e
    refine hm.heap b o ?_ (Heap.get?_push_of_some _ (Heap.get?_push_of_some _ e))
    rw [zI]
    intro z
    rcases List.mem_cons.mp z with q | q
    · exact absurd q (Nat.ne_of_lt b0)
    · exact absurd (List.mem_singleton.mp q) (Nat.ne_of_lt (Nat.lt_succ_of_lt b0))
theorem set_listI {l : Addr} {items : Array Value} {ns : List Int} {Q : Value → Shared → Prop} (hh : A.handled = none) (hl : s.heap.IsList l items) (hi : IntsAre items.toList ns) (hb : ns.length + 1 < scanBound)
    (h : ∀ (h' : Heap) (tk c : Nat), SetR w h' s.heap.objs.size (fun j => decide (j ∈ ns)) c → c ≤ ns.length → (∀ b o, s.heap.get? b = some o → h'.get? b = some o) → Q (.ref s.heap.objs.size) { s with heap := h', toks := tk }) :
    wpAny (model P w) A (call (.type "set") [.ref l]) Q E s := by
  obtain ⟨k, tl, m0⟩ := F.called_set.mro
  have m1 := F.called_set.made
  have m2 := F.called_set.sub
  have m3 := F.called_set.notType
  have m4 := F.called_set.canCreate
  have m5 := F.typeCall_set_1 (.ref l)
  refine wpAny_call (codeAny_of_tree (show wpAny _ _ (callAny (.type "set") _) _ _ _ from wpAny_pure ⟨Code.quiet_builtin _ (by decide +kernel), codeAny_builtin F.entry_type_call ?_⟩))
  rw [Around.under_plain (weight_type_call_type "set" [.ref l] []) rfl]
  repeat (any_goals (first | assumption | wp_step))
  refine codeAny_mono (code_set_led1 (.ref l) (E := E) (Q₁ := fun v s1 => v = .ref s.heap.objs.size ∧ s1 = { s with heap := s.heap.push (set0 w) }) ⟨rfl, rfl⟩) fun r s1 hr => ?_
  rcases r with e | f
  · exact hr
  cases f with
  | ret v =>
    obtain ⟨rfl, rfl⟩ := hr
    have hS : (s.heap.push (set0 w)).get? s.heap.objs.size = some (set0 w) := Heap.get?_push_size _ rfl
    have hT : Shared.TypeIs { s with heap := s.heap.push (set0 w) } (.ref s.heap.objs.size) "set" := ⟨_, hS, rfl⟩
    have n1 := F.called_set.init.lookup
    have n2 := F.called_set.init.bind (.ref s.heap.objs.size)
    repeat (any_goals (first | assumption | wp_step))
    refine codeAny_mono (fill_list (A := A.in1) (E := E) (by simp [hh]) hl hi hb) fun r2 s2 hr2 => ?_
    rcases r2 with e | f2
    · exact hr2
    cases f2 with
    | ret v2 =>
      obtain ⟨rfl, h', tk, c, rfl, hR, hc, hk⟩ := hr2
      repeat (any_goals (first | assumption | wp_step))
      exact h _ _ _ hR hc hk
    | _ => exact hr2.elim
  | _ => exact hr.elim
end
end L2
namespace DW
open PySem PySem.Spec PyProof.Rows L2
def rSetLI (K : PySem.W.Frag) (w : World) : List V → Hp → VK → Prop := fun xs H Q => ∃ (p : Addr) (ns : List Int), xs = [V.ref p] ∧ SqL K H p (ns.map V.int) ∧ ns.length < 60 ∧ ∀ (q : Addr) (c : Nat), H q = none → c ≤ ns.length → Q (.ref q) (upd H q (SetO w q (fun j => decide (j ∈ ns)) c))
theorem cr_setLI {X : Cx} (hc : X.calm = true) : CallR X (.type "set") (rSetLI X.K X.w) := by
  intro pins s σ H xs us Q I r h
  obtain ⟨p, ns, rfl, hq, hl, q⟩ := h
  obtain ⟨u, rfl, ru⟩ := vals1 r
  cases ru
  obtain ⟨its, rv, pl, hz⟩ := I.list hq
  refine set_listI (ns := ns) (I.ok.hd hc) pl.isList (by simpa using Vals.ints rv) (by unfold scanBound; omega) fun h' tk c hR hn k => ?_
  exact ⟨.ref _, _, I.laid (t' := tk) k (Nat.le_refl _) (setO_new hR), rfl, q _ c (I.hok.fresh (Nat.le_refl _)) hn⟩
section
variable {g : Gd} {X : Cx} {e : Expr} {w : WP} {p p2 pos pos2 : Pos}
def mSortSetL : D → RQ → Prop := fun d Q => ∃ ns : List Int, d = .lst (ns.map D.int) ∧ ns.length < 60 ∧ ∀ ms : List Int, ms.Pairwise (· < ·) → (∀ k, k ∈ ms ↔ k ∈ ns) → Q true (.lst (ms.map D.int))
theorem we_sortedSetL (h : WE g X e w) (hc : X.calm = true) (hg : Gl X "sorted") (hm : X.mg "sorted" = none) (hg2 : Gl X "set") (hm2 : X.mg "set" = none)
    (na : starEach [e] X.env = (false, eval e X.env) :: starEach [] X.env := by rfl) (nb : starEach [.Call (.Name "set" p2) [e] [] pos2] X.env = (false, eval (.Call (.Name "set" p2) [e] [] pos2) X.env) :: starEach [] X.env := by rfl) :
    WE g X (.Call (.Name "sorted" p) [.Call (.Name "set" p2) [e] [] pos2] [] pos) (fun st Q => w st fun _ d => mSortSetL d Q) := by
  obtain ⟨t, pe, q⟩ := h
  have p1 : PE X (.Call (.Name "set" p2) [e] [] pos2) _ := pe_callTy (cr_setLI hc) hg2 hm2 (by decide +kernel) (pa_cons pe pa_nil na) (he := na)
  refine ⟨_, pe_callB (cr_sortedSet hc) hg hm (by decide +kernel) (pa_cons p1 pa_nil nb) (he := nb), fun Av B gh H0 o σ st H Q Qd hg F R hw hk => ?_⟩
  refine q Av B gh H0 o σ st H _ _ hg F R hw fun fr d v H1 k1 r1 hd => ?_
  obtain ⟨ns, rfl, hl, hd⟩ := hd
  have r := r1.dr
  cases r with
  | lst n ea rs =>
    rename_i a vs
    cases rs.ints
    refine ⟨a, ns, rfl, .inl (.inl ea), hl, fun s c hs hc2 => ⟨s, _, c, rfl, upd_same, by omega, fun ms u h1 h2 h3 hu => ?_⟩⟩
    have kS : Kp g H1 (upd H1 s (SetO X.w s (fun j => decide (j ∈ ns)) c)) := Kp.new k1.2 hs
    have R2 := (R.mono F k1).mono F kS
    obtain ⟨k, z⟩ := (R2.fit F).lst (drs_ints ms) hu
    refine hk true _ _ _ ((k1.trans kS).trans k) (z.back R.kp.2 (k1.trans kS)) (hd ms h1 fun j => ?_)
    rw [h2 j, decide_eq_true_eq]
end
end DW
namespace DW
open PySem PySem.Spec PyProof.Rows L2
/-! ### sorted(xs, reverse=True), ints -/
section
variable {g : Gd} {X : Cx} {e : Expr} {w : WP} {p pos kp cp : Pos} {kc : Nat}
def mSortRev : D → RQ → Prop := fun d Q => ∃ ns : List Int, d = .lst (ns.map D.int) ∧ ∀ ms : List Int, ms.Perm ns → ms.Pairwise (· ≥ ·) → Q true (.lst (ms.map D.int))
theorem we_sortedRev {tk : TA} (h : WE g X e w) (hg : Gl X "sorted") (hm : X.mg "sorted" = none) (hk : PK X [⟨some "reverse", .Constant (.bool true) kc cp, kp⟩] tk) (ht : ∀ σ H Q, Q [V.bl true] H → tk σ H Q)
    (na : starEach [e] X.env = (false, eval e X.env) :: starEach [] X.env := by rfl)
    (he : backTo pos (starEach [e] X.env) = (false, eval e X.env) :: backTo pos (starEach [] X.env) := by rfl) (hpl : (backTo pos (starEach [e] X.env)).any (·.1) = false := by rfl)
    (hall : (backToKw pos (keywordEach [⟨some "reverse", .Constant (.bool true) kc cp, kp⟩] X.env)).all (·.1.isSome) = true := by rfl) (hnone : (backToKw pos (keywordEach [⟨some "reverse", .Constant (.bool true) kc cp, kp⟩] X.env)).any (·.1.isNone) = false := by rfl) (hks : (backToKw pos (keywordEach [⟨some "reverse", .Constant (.bool true) kc cp, kp⟩] X.env)).filterMap (·.1) = [Str.ofString "reverse"] := by rfl) :
    WE g X (.Call (.Name "sorted" p) [e] [⟨some "reverse", .Constant (.bool true) kc cp, kp⟩] pos) (fun st Q => w st fun _ d => mSortRev d Q) := by
  obtain ⟨t, pe, q⟩ := h
  refine ⟨_, pe_callBK (cr_sortedRev (b := true)) hg hm (by decide +kernel) (pa_cons pe pa_nil na) hk (by decide) (by decide) he hpl hall hnone hks, fun Av B gh H0 o σ st H Q Qd hG F R hw hk2 => ?_⟩
  refine q Av B gh H0 o σ st H _ _ hG F R hw fun fr d v H1 k1 r1 hd => ?_
  obtain ⟨ns, rfl, hd⟩ := hd
  have r := r1.dr
  cases r with
  | lst n ea rs =>
    rename_i a vs
    cases rs.ints
    refine ht _ _ _ ⟨a, ns, rfl, rfl, .inl (.inl ea), fun ms u h1 h2 hu => ?_⟩
    obtain ⟨k, z⟩ := ((R.mono F k1).fit F).lst (drs_ints ms) hu
    exact hk2 true _ _ _ (k1.trans k) (z.back R.kp.2 k1) (hd ms h1 h2)
end
end DW
namespace DW
open PySem PySem.Spec PyProof.Rows L2
/-! ### xs[i], ys[j] = a, b, own lists -/
theorem ws_item2 {g : Gd} {X : Cx} {s : Stmt} {e1 e2 i1 i2 : Expr} {w1 w2 u1 u2 : WP} (a b : Nat) (h1 : WE g X e1 w1) (h2 : WE g X e2 w2) (v1 : WE g X i1 u1) (v2 : WE g X i2 u2)
    (hp : ∀ t1 t2 s1 s2, PE X e1 t1 → PE X e2 t2 → PE X i1 s1 → PE X i2 s2 → PS X s (tAsg (tTup (tCons t1 (tCons t2 tNil))) (gTup X.K 2 (gCons (gSub (tVar a) s1 rSetL) (gCons (gSub (tVar b) s2 rSetL) gNil))))) :
    WS g X s (fun De st => (∃ c, st[a]? = some (.own c)) ∧ (∃ c, st[b]? = some (.own c)) ∧ w1 st fun _ d1 => w2 st fun _ d2 => u1 st fun _ y1 => ∃ ds n j, st[a]? = some (.own ds) ∧ y1 = .int n ∧ ixN ds.length n = some j ∧
      (∃ c, (st.set a (.own (ds.set j d1)))[b]? = some (.own c)) ∧ u2 (st.set a (.own (ds.set j d1))) fun _ y2 => ∃ ds2 n2 j2, (st.set a (.own (ds.set j d1)))[b]? = some (.own ds2) ∧ y2 = .int n2 ∧ ixN ds2.length n2 = some j2 ∧
        De.nx ((st.set a (.own (ds.set j d1))).set b (.own (ds2.set j2 d2)))) := by
  obtain ⟨t1, p1, q1⟩ := h1
  obtain ⟨t2, p2, q2⟩ := h2
  obtain ⟨s1, x1, z1⟩ := v1
  obtain ⟨s2, x2, z2⟩ := v2
  refine ⟨_, hp _ _ _ _ p1 p2 x1 x2, fun Av B gh H0 o σ st H E De hg F R hw K => ?_⟩
  obtain ⟨⟨ca, hca⟩, ⟨cb, hcb⟩, hw⟩ := hw
  refine q1 Av B gh H0 o σ st H _ _ hg F R hw fun f1 d1 w1' H1 k1 r1 hw1 => ?_
  have R1 := R.mono F k1
  refine q2 Av B gh H0 o σ st H1 _ _ hg F R1 hw1 fun f2 d2 w2' H2 k2 r2 hw2 => ?_
  have R2 := R1.mono F k2
  refine ⟨le_line (by simp), fun T hT => ?_⟩
  have k3 : Kp g H2 (upd H2 T (.tup [w1', w2'])) := Kp.new R2.kp.2 hT
  have R3 := R2.mono F k3
  have y1 := (r1.dr.mv (Mv.avo F k2)).mv (Mv.avo F k3)
  have y2 := r2.dr.mv (Mv.avo F k3)
  obtain ⟨ea, _, _, _, _, _⟩ := R3.own a ca hca
  refine ⟨T, _, rfl, .inl (.inl upd_same), rfl, _, _, rfl, _, ea, ?_⟩
  refine z1 Av B gh H0 o σ st _ _ _ hg F R3 hw2 fun f3 m1 n1 H4 k4 r4 hd => ?_
  have R4 := R3.mono F k4
  have y1 := y1.mv (Mv.avo F k4)
  have y2 := y2.mv (Mv.avo F k4)
  obtain ⟨ds, n, j, hi, rfl, hz, ⟨cb', hcb'⟩, hd⟩ := hd
  obtain ⟨_, _, _, vs, e4, rr⟩ := R4.own a _ hi
  have ev : n1 = .int n := by cases r4.dr; rfl
  have R5 := R4.updOwn F hi (rr.set y1 j)
  refine ⟨o a, vs, n, j, rfl, ev, e4, by rw [rr.length]; exact hz, ?_⟩
  have m5 : Mv (Avo Av B o st) (Avo Av B o (st.set a (.own (ds.set j d1)))) H4 (upd H4 (o a) (.lst (vs.set j w1'))) := ⟨fun x u' n e => ⟨fun z => n (by
      rcases z with z | ⟨l, es, a1, a2⟩
      · exact .inl z
      · by_cases c : l = a
        · subst c; exact .inr ⟨l, _, hi, a2⟩
        · rw [List.getElem?_set_ne (Ne.symm c)] at a1
          exact .inr ⟨l, es, a1, a2⟩), by
    have : x ≠ o a := fun z => n (.inr ⟨a, _, hi, z ▸ rfl⟩)
    rw [upd_ne this]; exact e⟩⟩
  have y2 := y2.mv m5
  obtain ⟨eb, _, _, _, _, _⟩ := R5.own b cb' hcb'
  refine ⟨_, _, rfl, _, eb, ?_⟩
  refine z2 Av B gh H0 o σ _ _ _ _ hg F R5 hd fun f4 m2 n2 H5 k5 r5 hd2 => ?_
  have R6 := R5.mono F k5
  have y2 := y2.mv (Mv.avo F k5)
  obtain ⟨ds2, n2', j2, hi2, rfl, hz2, hn⟩ := hd2
  obtain ⟨_, _, _, vs2, e5, rr2⟩ := R6.own b _ hi2
  have ev2 : n2 = .int n2' := by cases r5.dr; rfl
  exact ⟨o b, vs2, n2', j2, rfl, ev2, e5, by rw [rr2.length]; exact hz2, rfl, K.nx o σ _ _ (R6.updOwn F hi2 (rr2.set y2 j2)) hn⟩
/-! ### the truth of a list, a tuple, an int -/
def truD : D → Bool → Prop
  | .non, k => k = false
  | .bl b, k => k = b
  | .int i, k => k = (i != 0)
  | .lst xs, k => k = !xs.isEmpty
  | .tup xs, k => k = !xs.isEmpty
  | _, _ => False
theorem wt_tru {g : Gd} {X : Cx} {e : Expr} {w : WP} (h : WE g X e w) (he : ∀ whole, isTrue e X.env whole = (do let v ← whole; standAt e.pos; holding [v] (truthy v)) := by intro _; rfl) : WT g X e (fun st Q => w st fun _ d => ∃ c, truD d c ∧ Q c) := by
  obtain ⟨t, p, q⟩ := h
  refine ⟨_, pt_truth p he, fun Av B gh H0 o σ st H Q Qd hg F R hw hk => ?_⟩
  refine q Av B gh H0 o σ st H _ _ hg F R hw fun fr d v H1 k1 r1 hd => ?_
  obtain ⟨c, ht, hd⟩ := hd
  refine ⟨c, ?_, hk c H1 k1 hd⟩
  have em : ∀ {Av H} {vs : List V} {ds : List D}, DRs Av H vs ds → vs.isEmpty = ds.isEmpty := fun r => by cases r <;> rfl
  have r := r1.dr
  cases r with
  | non => exact ht
  | bl b => exact ht
  | int i => exact ht
  | lst n a r => exact .inl ⟨_, .inl (.inl a), by rw [em r]; exact ht⟩
  | tup n a r => exact .inr (.inl ⟨_, .inl (.inl a), by rw [em r]; exact ht⟩)
  | _ => exact ht.elim
end DW
namespace DW
open PySem PySem.Spec PyProof.Rows L2
/-! ### t == (), any tuple -/
def rEqNil (K : PySem.W.Frag) : R2 := fun x y H Q => ∃ a b xs, x = .ref a ∧ y = .ref b ∧ SqT K H a xs ∧ SqT K H b [] ∧ Q (.bl xs.isEmpty) H
theorem op_eqNil {X : Cx} (hu : X.A.units + 64 < cLine) : OpR X (compareOp .Eq) (rEqNil X.K) := by
  intro pins s σ H x y v u Q I rx ry h
  obtain ⟨a, b, xs, rfl, rfl, ha, hb, q⟩ := h
  obtain rfl : v = Value.ref a := rx
  obtain rfl : u = Value.ref b := ry
  obtain ⟨its, o, n, hv, e, hc, hd⟩ := L2.sqT_at I.hok I.kIn ha
  obtain ⟨its2, o2, n2, hv2, e2, hc2, hd2⟩ := L2.sqT_at I.hok I.kIn hb
  have z : its2 = [] := by cases hv2; rfl
  subst z
  refine SeqAt.eq_tupleAt (e := fun _ => true) ⟨o, e, hc, n, hd⟩ ⟨o2, e2, hc2, n2, hd2⟩ (by omega) (fun j _ h2 => absurd h2 (by simp)) ⟨.bl xs.isEmpty, H, I, ?_, q⟩
  have : (its.isEmpty) = xs.isEmpty := by cases hv <;> rfl
  rw [← this]
  have e : ((List.range (min its.toArray.size ([] : List Value).toArray.size)).all (fun _ => true) && its.toArray.size == ([] : List Value).toArray.size) = its.isEmpty := by cases its <;> simp
  rw [e]
  rfl
def mEqNil : Sem2 := fun x y Q => ∃ xs, x = .tup xs ∧ y = .tup [] ∧ Q false (.bl xs.isEmpty)
theorem s2_eqNil {g : Gd} {X : Cx} : S2 g (rEqNil X.K) mEqNil := by
  intro Avs Av H x y vx vy Q Qd F rx ry hm hk
  obtain ⟨xs, rfl, rfl, q⟩ := hm
  obtain ⟨p, vs, rfl, e1, r1, rp⟩ := rx.tup
  obtain ⟨p2, vs2, rfl, e2, r2, rp2⟩ := ry.tup
  have z : vs2 = [] := by cases r2; rfl
  subst z
  have em : vs.isEmpty = xs.isEmpty := by cases r1 <;> rfl
  exact ⟨p, p2, vs, rfl, rfl, .inl (.inl e1), .inl (.inl e2), by rw [em]; exact hk false _ _ H (Kp.refl F.gg) (.old (.bl _)) q⟩
end DW
/-! dicts with tuple keys compared: the same keys in the same order -/
namespace PySem.W
open Lean Elab Tactic Meta PySem PySem.Calls PyProof.Rows PyProof.V PySem.Spec
section
variable {prog : Program} {w : World} {K : Type} [DecidableEq K] {knd : HeapKind prog w K} {A : Around} {E : Value → Shared → Prop} {s : Shared}
theorem samePairsH {nm : String} {a b : Addr} {xs ys : List (K × Addr × Value)} {e : Nat → Bool} {Q : Bool → Shared → Prop} (ha : (a == sysModules) = false) (hb : (b == sysModules) = false)
    (da : s.heap.DictOfH knd a xs) (db : s.heap.DictOfH knd b ys) (hu : knd.room A) (hk : xs.map (·.1) = ys.map (·.1))
    (hv : ∀ (i : Nat) x y, xs[i]? = some x → ys[i]? = some y → SeqAt.EqAt A s x.2.2 y.2.2 (e i)) (h : Q ((List.range xs.length).all e) s) :
    wpAny (model prog w) A (Builtin.Dict.samePairs nm a b) Q E s := by
  obtain ⟨oa, es, ep, hoa, _, hda, hea, hia, hna⟩ := da
  obtain ⟨ob, es', ep', hob, _, hdb, heb, hib, hnb⟩ := db
  have hla : es.size = xs.length := size_of_entries hea
  have hlb : es'.size = ys.length := size_of_entries heb
  have hll : xs.length = ys.length := by have := congrArg List.length hk; simpa using this
  unfold Builtin.Dict.samePairs Builtin.Dict.showsAll
  rw [if_neg (show ¬ (a == sysModules) = true by rw [ha]; exact Bool.false_ne_true), if_neg (show ¬ (b == sysModules) = true by rw [hb]; exact Bool.false_ne_true)]
  refine wpAny_bind (wpAny_pure (wpAny_bind (wpAny_pure ?_)))
  refine wpAny_bind (wpAny_dictEntries hoa hda ?_)
  dsimp only
  refine wpAny_bind (wpAny_dictEntries hob hdb ?_)
  rw [if_neg (by rw [hla, hlb, hll]; simp)]
  refine wpAny_bind (wpAny_dictEpoch hoa hda ?_)
  refine wpAny_bind ?_
  rw [Std.Legacy.Range.forIn_eq_forIn_range']
  simp only [Std.Legacy.Range.size, Nat.sub_zero, Nat.add_sub_cancel, Nat.div_one]
  refine wpAny_forIn_list _
    (fun rest q s' => s' = s ∧ q = (none, ()) ∧ ∃ i, rest = List.range' i (es.size - i) ∧ i ≤ es.size ∧ ∀ j, j < i → e j = true)
    _ ?_ ?_ _ _ ⟨rfl, rfl, 0, by simp, Nat.zero_le _, fun j hj => absurd hj (Nat.not_lt_zero _)⟩
  · rintro x rest q s' ⟨rfl, rfl, i, hr, hi, hpre⟩
    have hlt : i < es.size := by
      rcases Nat.lt_or_ge i es.size with h | h
      · exact h
      · rw [Nat.sub_eq_zero_of_le h] at hr; simp at hr
    obtain ⟨rfl, hrest⟩ : x = i ∧ rest = List.range' (i + 1) (es.size - (i + 1)) := by
      have e : es.size - i = (es.size - (i + 1)) + 1 := by omega
      rw [e, List.range'_succ] at hr
      injection hr with h1 h2
      exact ⟨h1, h2⟩
    refine wpAny_bind (wpAny_dictEntries hoa hda ?_)
    rw [Array.getElem?_eq_getElem hlt]
    have hx : x < xs.length := by omega
    have hy : x < ys.length := by omega
    have hy2 : x < es'.size := by omega
    have ex : es[x] = entryOfKey knd xs[x] := by
      have := entry_at hea x
      rw [Array.getElem?_eq_getElem hlt, List.getElem?_eq_getElem hx] at this
      exact Option.some.inj this
    have ey : es'[x] = entryOfKey knd ys[x] := by
      have := entry_at heb x
      rw [Array.getElem?_eq_getElem hy2, List.getElem?_eq_getElem hy] at this
      exact Option.some.inj this
    have kxy : xs[x].1 = ys[x].1 := by
      have := congrArg (fun l => l[x]?) hk
      simp only [List.getElem?_map, List.getElem?_eq_getElem hx, List.getElem?_eq_getElem hy, Option.map_some] at this
      exact Option.some.inj this
    have hkey : knd.is s'.heap xs[x].1 xs[x].2.1 := hia _ (List.getElem_mem hx)
    show wpAny _ _ (holding [es[x].key, es[x].val] _ >>= _) _ _ _
    rw [ex]
    refine wpAny_bind (wpAny_holding (wpAny_bind (wpAny_dictFind_heap hu hkey hob hdb heb hib hnb (fun hn => ?_) (fun j p hj => ?_))))
    · exact absurd (show ys[x]? = some (xs[x].1, ys[x].2) by rw [List.getElem?_eq_getElem hy, kxy]) (hn x _)
    · have ej : j = x := by
        have g1 : (ys.map (·.1))[j]? = some xs[x].1 := by rw [List.getElem?_map, hj]; rfl
        have g2 : (ys.map (·.1))[x]? = some xs[x].1 := by rw [List.getElem?_map, List.getElem?_eq_getElem hy, kxy]; rfl
        obtain ⟨lj, g1⟩ := List.getElem?_eq_some_iff.mp g1
        obtain ⟨lx, g2⟩ := List.getElem?_eq_some_iff.mp g2
        exact (List.getElem_inj hnb).mp (g1.trans g2.symm)
      subst ej
      refine wpAny_bind (wpAny_dictEntries hob hdb ?_)
      rw [Array.getElem?_eq_getElem hy2, ey]
      have he := hv j _ _ (List.getElem?_eq_getElem hx) (List.getElem?_eq_getElem hy)
      refine wpAny_holding (he prog w _ _ ?_)
      cases ee : e j with
      | false =>
        show wpAny _ _ (if (!false) = true then _ else _) _ _ _
        rw [if_pos (by decide)]
        refine wpAny_pure (wpAny_pure ?_)
        rw [show (List.range xs.length).all e = false from List.all_eq_false.mpr ⟨j, List.mem_range.mpr hx, by rw [ee]; simp⟩] at h
        exact h
      | true =>
        show wpAny _ _ (if (!true) = true then _ else _) _ _ _
        rw [if_neg (by decide)]
        refine wpAny_bind (wpAny_dictEpoch hoa hda ?_)
        rw [if_neg (by simp)]
        exact wpAny_pure ⟨rfl, rfl, j + 1, hrest, hlt, fun k hk2 => by
          rcases Nat.lt_succ_iff_lt_or_eq.mp hk2 with z | z
          · exact hpre k z
          · rw [z]; exact ee⟩
  · rintro q s' ⟨rfl, rfl, i, hr, hi, hpre⟩
    have hin : i = es.size := by
      rcases Nat.lt_or_ge i es.size with h | h
      · have e : es.size - i = (es.size - (i + 1)) + 1 := by omega
        rw [e, List.range'_succ] at hr; exact nomatch hr
      · exact Nat.le_antisymm hi h
    refine wpAny_pure ?_
    rw [show (List.range xs.length).all e = true from List.all_eq_true.mpr fun j hj => hpre j (by have := List.mem_range.mp hj; omega)] at h
    exact h
theorem eqDictH {a b : Addr} {xs ys : List (K × Addr × Value)} {e : Nat → Bool} {Q : Value → Shared → Prop} (ha : (a == sysModules) = false) (hb : (b == sysModules) = false)
    (da : s.heap.DictOfH knd a xs) (db : s.heap.DictOfH knd b ys) (hu : A.units < cLine) (hr : knd.room A.in1) (hk : xs.map (·.1) = ys.map (·.1))
    (hv : ∀ (i : Nat) x y, xs[i]? = some x → ys[i]? = some y → SeqAt.EqAt A.in1 s x.2.2 y.2.2 (e i)) (h : Q (.bool ((List.range xs.length).all e)) s) :
    wpAny (model prog w) A (compareOp .Eq (.ref a) (.ref b)) Q E s := by
  refine wpAny_richCompare_same_room (op := .Eq) da.typeIs db.typeIs PySem.F.slot_dict_eq (wpAny_call_entry PySem.F.slot_dict_eq da.typeIs PySem.F.entry_dict_eq ?_ (PySem.F.args_dict_eq_2 _ _)) hu
  show wpAny _ _ (Builtin.Dict.dictSlotArgs "__eq__" ⟨[.ref a, .ref b], []⟩ >>= _) _ _ s
  refine wpAny_bind ?_
  unfold Builtin.Dict.dictSlotArgs
  refine wpAny_bind (wpAny_notOrdered_dict da.typeIs ?_)
  show wpAny _ _ (pure (Value.ref a, Value.ref b)) _ _ s
  refine wpAny_pure ?_
  refine wpAny_bind (wpAny_isInstance (T := "dict") db.typeIs PySem.F.sub_dict_dict ?_)
  simp only [Bool.not_true, Bool.false_eq_true, if_false]
  refine wpAny_bind (wpAny_pure (wpAny_bind (wpAny_pure ?_)))
  refine wpAny_bind (samePairsH ha hb da db hr hk hv ?_)
  refine wpAny_pure ⟨_, rfl, ?_, ?_⟩
  · exact fun x => nomatch x
  · simpa using h
theorem neDictH {a b : Addr} {xs ys : List (K × Addr × Value)} {e : Nat → Bool} {Q : Value → Shared → Prop} (ha : (a == sysModules) = false) (hb : (b == sysModules) = false)
    (da : s.heap.DictOfH knd a xs) (db : s.heap.DictOfH knd b ys) (hu : A.units < cLine) (hr : knd.room A.in1) (hk : xs.map (·.1) = ys.map (·.1))
    (hv : ∀ (i : Nat) x y, xs[i]? = some x → ys[i]? = some y → SeqAt.EqAt A.in1 s x.2.2 y.2.2 (e i)) (h : Q (.bool (!(List.range xs.length).all e)) s) :
    wpAny (model prog w) A (compareOp .NotEq (.ref a) (.ref b)) Q E s := by
  refine wpAny_richCompare_same_room (op := .NotEq) da.typeIs db.typeIs PySem.F.slot_dict_ne (wpAny_call_entry PySem.F.slot_dict_ne da.typeIs PySem.F.entry_dict_ne ?_ (PySem.F.args_dict_ne_2 _ _)) hu
  show wpAny _ _ (Builtin.Dict.dictSlotArgs "__ne__" ⟨[.ref a, .ref b], []⟩ >>= _) _ _ s
  refine wpAny_bind ?_
  unfold Builtin.Dict.dictSlotArgs
  refine wpAny_bind (wpAny_notOrdered_dict da.typeIs ?_)
  show wpAny _ _ (pure (Value.ref a, Value.ref b)) _ _ s
  refine wpAny_pure ?_
  refine wpAny_bind (wpAny_isInstance (T := "dict") db.typeIs PySem.F.sub_dict_dict ?_)
  simp only [Bool.not_true, Bool.false_eq_true, if_false]
  refine wpAny_bind (wpAny_pure (wpAny_bind (wpAny_pure ?_)))
  refine wpAny_bind (samePairsH ha hb da db hr hk hv ?_)
  refine wpAny_pure ⟨_, rfl, ?_, ?_⟩
  · exact fun x => nomatch x
  · simpa using h
end
end PySem.W

namespace DW
open PySem PySem.Spec PyProof.Rows L2
section
variable {H : Hp}
theorem kt_keys {kvs : List (List Key × V)} {xs : List (List Key × Addr × Value)} (r : KT H kvs xs) : xs.map (·.1) = kvs.map (·.1) := by
  unfold KT at r
  induction r with
  | nil => rfl
  | cons h t ih => rw [List.map_cons, List.map_cons, ih, h.1]
theorem kt_at {kvs : List (List Key × V)} {xs : List (List Key × Addr × Value)} (r : KT H kvs xs) : ∀ (i : Nat) x, xs[i]? = some x → ∃ p, kvs[i]? = some p ∧ RelV p.2 x.2.2 := by
  unfold KT at r
  induction r with
  | nil => intro i x h; simp at h
  | @cons p q ps qs h t ih =>
    intro i x hx
    cases i with
    | zero =>
      simp only [List.getElem?_cons_zero, Option.some.injEq] at hx
      subst hx
      exact ⟨p, by simp, h.2.2⟩
    | succ i =>
      rw [List.getElem?_cons_succ] at hx
      obtain ⟨p', a, b⟩ := ih i x hx
      exact ⟨p', by rw [List.getElem?_cons_succ]; exact a, b⟩
theorem rel_bl {b : Bool} {v : Value} (h : RelV (.bl b) v) : v = .bool b := h
def rDT (f : Bool → Bool) : R2 := fun x y H Q => ∃ a b ks ls, ∃ e : Nat → Bool, x = .ref a ∧ y = .ref b ∧ H a = some (.dT ks) ∧ H b = some (.dT ls) ∧ ks.map (·.1) = ls.map (·.1) ∧ (∀ (i : Nat) p q, ks[i]? = some p → ls[i]? = some q → ∃ b1 b2, p.2 = .bl b1 ∧ q.2 = .bl b2 ∧ e i = (b1 == b2)) ∧ Q (.bl (f ((List.range ks.length).all e))) H
theorem op_eqT {X : Cx} (hu : X.A.units + 64 < cLine) : OpR X (compareOp .Eq) (rDT id) := by
  intro pins s σ H x y v u Q I rx ry h
  obtain ⟨a, b, ks, ls, e, rfl, rfl, ea, eb, hk, hb, q⟩ := h
  obtain rfl : v = Value.ref a := rx
  obtain rfl : u = Value.ref b := ry
  obtain ⟨_, ya, xs, ra, da⟩ := dt_of I.hok ea
  obtain ⟨_, yb, zs, rb, db⟩ := dt_of I.hok eb
  have kk : xs.map (·.1) = zs.map (·.1) := by rw [kt_keys ra, kt_keys rb, hk]
  have ll : xs.length = ks.length := by have := congrArg List.length (kt_keys ra); simpa using this
  refine PySem.W.eqDictH (e := e) ya yb da db (by omega) (tupleKind_room_in1 (by omega)) kk (fun i x z hx hz => ?_) ⟨.bl ((List.range ks.length).all e), H, I, by rw [ll]; rfl, q⟩
  obtain ⟨p, hp, rp⟩ := kt_at ra i x hx
  obtain ⟨p2, hp2, rp2⟩ := kt_at rb i z hz
  obtain ⟨b1, b2, e1, e2, e3⟩ := hb i p p2 hp hp2
  rw [e1] at rp
  rw [e2] at rp2
  rw [rel_bl rp, rel_bl rp2, e3]
  exact SeqAt.EqAt.bool_bool b1 b2
theorem op_neT {X : Cx} (hu : X.A.units + 64 < cLine) : OpR X (compareOp .NotEq) (rDT (!·)) := by
  intro pins s σ H x y v u Q I rx ry h
  obtain ⟨a, b, ks, ls, e, rfl, rfl, ea, eb, hk, hb, q⟩ := h
  obtain rfl : v = Value.ref a := rx
  obtain rfl : u = Value.ref b := ry
  obtain ⟨_, ya, xs, ra, da⟩ := dt_of I.hok ea
  obtain ⟨_, yb, zs, rb, db⟩ := dt_of I.hok eb
  have kk : xs.map (·.1) = zs.map (·.1) := by rw [kt_keys ra, kt_keys rb, hk]
  have ll : xs.length = ks.length := by have := congrArg List.length (kt_keys ra); simpa using this
  refine PySem.W.neDictH (e := e) ya yb da db (by omega) (tupleKind_room_in1 (by omega)) kk (fun i x z hx hz => ?_) ⟨.bl (!(List.range ks.length).all e), H, I, by rw [ll]; rfl, q⟩
  obtain ⟨p, hp, rp⟩ := kt_at ra i x hx
  obtain ⟨p2, hp2, rp2⟩ := kt_at rb i z hz
  obtain ⟨b1, b2, e1, e2, e3⟩ := hb i p p2 hp hp2
  rw [e1] at rp
  rw [e2] at rp2
  rw [rel_bl rp, rel_bl rp2, e3]
  exact SeqAt.EqAt.bool_bool b1 b2
end
def tabD (k : List Int → List Key) (L : List (List Int)) (f : List Int → Bool) : List (List Key × D) := L.map fun g => (k g, .bl (f g))
def mDT (f : Bool → Bool) : Sem2 := fun x y Q => ∃ k L c d, x = .dT (tabD k L c) ∧ y = .dT (tabD k L d) ∧ Q false (.bl (f (L.all fun g => c g == d g)))
theorem drt_tab {k : List Int → List Key} {Av : Addr → Prop} {H : Hp} : ∀ {L : List (List Int)} {c : List Int → Bool} {ks : List (List Key × V)}, DRt Av H ks (tabD k L c) → ks = L.map fun g => (k g, V.bl (c g))
  | [], _, _, h => by cases h; rfl
  | g :: L, c, _, h => by
    cases h with
    | cons a b =>
      cases a
      rw [drt_tab b]
      rfl
theorem s2_DT {g : Gd} {f : Bool → Bool} : S2 g (rDT f) (mDT f) := by
  intro Avs Av H x y vx vy Q Qd F rx ry hm hk
  obtain ⟨k, L, c, d, rfl, rfl, q⟩ := hm
  obtain ⟨p, vs, rfl, e1, r1⟩ := rx.dT
  obtain ⟨p2, vs2, rfl, e2, r2⟩ := ry.dT
  have z1 := drt_tab r1
  have z2 := drt_tab r2
  subst z1 z2
  refine ⟨p, p2, _, _, fun i => c (L.getD i []) == d (L.getD i []), rfl, rfl, e1, e2, by rw [List.map_map, List.map_map]; rfl, fun i p q hp hq => ?_, ?_⟩
  · rw [List.getElem?_map] at hp hq
    cases z : L[i]? with
    | none => rw [z] at hp; cases hp
    | some r =>
      rw [z] at hp hq
      cases hp
      cases hq
      exact ⟨_, _, rfl, rfl, by show (c (L.getD i []) == d (L.getD i [])) = _; rw [List.getD_eq_getElem?_getD, z]; rfl⟩
  · have e : (List.range (L.map fun g => (k g, V.bl (c g))).length).all (fun i => c (L.getD i []) == d (L.getD i [])) = L.all fun g => c g == d g := by
      rw [List.length_map, Bool.eq_iff_iff, List.all_eq_true, List.all_eq_true]
      constructor
      · intro h r hr
        obtain ⟨i, hi, e⟩ := List.getElem_of_mem hr
        have := h i (List.mem_range.mpr hi)
        rw [List.getD_eq_getElem?_getD, List.getElem?_eq_getElem hi, e] at this
        exact this
      · intro h i hi
        have hi := List.mem_range.mp hi
        rw [List.getD_eq_getElem?_getD, List.getElem?_eq_getElem hi]
        exact h _ (List.getElem_mem hi)
    rw [e]
    exact hk false _ _ H (Kp.refl F.gg) (.old (.bl _)) q
end DW
namespace DW
open PySem PySem.Spec PyProof.Rows L2
/-! ### min(xs), ints -/
def mMinL : SemC := fun ds Q => ∃ ns : List Int, ds = [.lst (ns.map D.int)] ∧ 0 < ns.length ∧ ∀ m, m ∈ ns → (∀ y, y ∈ ns → m ≤ y) → Q false (.int m)
theorem sc_minL {g : Gd} {X : Cx} : SC g (rMin X.K) mMinL := by
  rintro Avs Av H ds vs Q Qd F r ⟨bs, rfl, h0, hm⟩ hk
  obtain ⟨v, rfl, y⟩ := r.one
  obtain ⟨p, ws, rfl, e, q⟩ := y.lst
  cases q.ints
  refine ⟨p, bs, rfl, .inl (.inl e), h0, fun m h1 h2 => ?_⟩
  exact hk _ _ _ H (Kp.refl F.gg) (.old (.int _)) (hm m h1 h2)
end DW
namespace DW
open PySem PySem.Spec PyProof.Rows L2

/-- plain things: no object of a class of one's own, no class -/
def D.plain : D → Bool | .rf _ => false | .ty _ => false | .obj _ _ => false | _ => true
def D.isInt : D → Bool | .int _ => true | _ => false
def spIsInt (ds : List D) (Q : RQ) : Prop := ∃ d, ds = [d] ∧ d.plain = true ∧ Q false (.bl d.isInt)
def isGrp (n : Int) : Int → List D → Bool
  | _, [] => true
  | l, .int p :: r => if p < l ∨ n ≤ p then false else isGrp n (p + 1) r
  | _, _ :: _ => false
def D.isGroup (n : Int) : D → Bool | .tup ds => isGrp n 0 ds | _ => false
def D.plain1 : D → Bool | .tup ds => ds.all D.plain | d => d.plain
def spIsGroup (ds : List D) (Q : RQ) : Prop := ∃ n d, ds = [.int n, d] ∧ d.plain1 = true ∧ Q false (.bl (d.isGroup n))
def D.isCount (l : Int) : D → Bool | .int i => decide (0 ≤ i) && decide (i ≤ l) | _ => false
def D.isRow (l : Int) : D → Bool | .lst xs => decide ((xs.length : Int) ≤ l) | .tup xs => decide ((xs.length : Int) ≤ l) | _ => false
def spIsCount (ds : List D) (Q : RQ) : Prop := ∃ d l, ds = [d, .int l] ∧ d.plain = true ∧ Q false (.bl (d.isCount l))
def spIsRow (ds : List D) (Q : RQ) : Prop := ∃ d l, ds = [d, .int l] ∧ d.plain = true ∧ Q false (.bl (d.isRow l))
def spTogether (ds : List D) (Q : RQ) : Prop := ∃ xs ys : List Int, ds = [tI xs, tI ys] ∧ xs.length + ys.length < 60 ∧ ∀ ms : List Int, ms.Pairwise (· < ·) → (∀ k, k ∈ ms ↔ k ∈ xs ∨ k ∈ ys) → Q false (tI ms)
def spApart (ds : List D) (Q : RQ) : Prop := ∃ xs ys : List Int, ds = [tI xs, tI ys] ∧ xs.length ≤ 1000 ∧ Q false (tI (xs.filter fun x => !ys.contains x))
theorem isi_b {K : PySem.W.Frag} {x : D} {t n : String} {b : Bool} {Q : RQ} (h1 : x.tyv = some (.type t)) (h2 : kitB t n = some b) (hq : Q false (.bl b)) (h3 : ∀ C fs, x = .obj C fs → InsT K C := by intro C fs h; cases h) (hx : True := trivial) : mIsi K [x, .ty n] Q :=
  ⟨_, _, b, h1, h3, rfl, kit_ty h2, hq⟩
theorem isi_t {K : PySem.W.Frag} {x : D} {t n m : String} {b c : Bool} {Q : RQ} (h1 : x.tyv = some (.type t)) (h2 : kitB t n = some b) (h2' : kitB t m = some c) (hq : Q false (.bl (b || c))) (h3 : ∀ C fs, x = .obj C fs → InsT K C := by intro C fs h; cases h) : mIsi K [x, .tup [.ty n, .ty m]] Q :=
  ⟨_, [.type n, .type m], b || c, h1, h3, ⟨_, _, rfl, rfl, _, _, rfl, rfl, rfl⟩, kitAny_cons (b := b) (kit_ty h2) (fun hb => kitAny_cons (b := c) (kit_ty h2') (fun hc => by rw [hb, hc]; exact kitAny_nil) (fun hc => by rw [hc]; simp)) (fun hb => by rw [hb]; rfl), hq⟩

def spCheck (ds : List D) (Q : RQ) : Prop := ∃ (n : Int) (rows : List (List Int)) (a b : Int), (ds = [.int n, lT rows, .int a, .int b] ∨ ds = [.int n, tT rows, .int a, .int b]) ∧ 0 ≤ n ∧ n ≤ a ∧ (rows.length : Int) ≤ b ∧ rows.length ≤ 1000 ∧ (∀ r ∈ rows, Gp n r) ∧ Q false .non
theorem plain_ints : ∀ r : List Int, (r.map D.int).all D.plain = true
  | [] => rfl
  | x :: r => by simp [D.plain, plain_ints r]
theorem isGrp_gp {n : Int} : ∀ {l : Int} {r : List Int}, r.Pairwise (· < ·) → (∀ x ∈ r, l ≤ x ∧ x < n) → isGrp n l (r.map D.int) = true
  | _, [], _, _ => rfl
  | l, p :: r, hp, hb => by
    rw [List.pairwise_cons] at hp
    have h1 := hb p List.mem_cons_self
    simp only [List.map_cons, isGrp]
    rw [if_neg (by omega)]
    exact isGrp_gp hp.2 fun x hx => ⟨by have := hp.1 x hx; omega, (hb x (List.mem_cons_of_mem _ hx)).2⟩
theorem isGroup_gp {n : Int} {r : List Int} (h : Gp n r) : (tI r).isGroup n = true := isGrp_gp h.1 h.2
end DW
namespace K68
open PySem PySem.Spec PyProof.Rows L2 DW
def topS (i : Nat) : Stmt := PySem.Challenge.pw_crewlists_k68_groups_common_to_two_famil.main.body.getD i (.Pass ⟨0, 0, 0, 0⟩)
local macro_rules | `(tactic| walk_at "dw") => `(tactic| simp only [rdS_0, rdS_s, rdO_0, rdO_1, rdO_s, startS, endD, mAdd_i, mAdd_b, mAdd_l, mAdd_t, mI_i, mIC_i, mB_i, mLen_l, mLen_t, mList_l, mList_t, mTuple_l, mTuple_t, mInt1_i, mInt1_b, mAbs_i, mIx_l, mIx_t, mSl_l, mSl_t, mSeq_l, mSeq_t, mEnum_l, mEnum_t, mFld_o, mExt_l, mRev_l, mRepr_1, put_f, put_t, frz_0, frz_1, frz_2, frz_s, wpS_0, wpS_1, DW.putAll,
  List.map_cons, List.map_nil, List.cons_append, List.nil_append, List.length_cons, List.length_nil, List.replicate_succ, List.replicate_zero, List.set_cons_zero, List.set_cons_succ, List.set_nil, Nat.reduceAdd, Nat.reduceSub, Nat.zero_add, Bool.not_true, Bool.not_false, if_true, if_false, Bool.false_eq_true, and_true, true_and, decide_eq_true_eq, eq_self, Bool.and_eq_true, Bool.or_eq_true, Bool.not_eq_true, D.bl.injEq, D.int.injEq, D.lst.injEq, D.tup.injEq, exists_eq_left', exists_eq_left, exists_eq_right])
section
variable {g : Gd} {P : Program} {w : World} {K : PySem.W.Frag} {mg : Str → Option Value} {base : Heap} {CJ CFm b c sa : Addr} {cs ns : List Int} {tr : Prop}
abbrev is_integer_s : Stmt := topS 11
theorem is_integer_sc : FnScope ["thing"] ["thing"] (defScope is_integer_s) := ⟨rfl, rfl, rfl, by decide +kernel, rfl, by decide +kernel, by decide +kernel⟩
theorem is_integer_ok {is_integer_f : Addr} {is_integer_fd : FuncData} (is_integer_D : Dfn K mg "is_integer" "is_integer" is_integer_s ["thing"] is_integer_f is_integer_fd) (T : Bltn mg) : FnOk P w K mg base CX0 1 is_integer_f is_integer_fd ["thing"] (spOf g 1 spIsInt) := by
  refine def_ok is_integer_D.F is_integer_sc rfl (fun cdv A fr s H E hr =>
    (wss_one (ws_ret (we_and (we_cb (war_cons (wr_v 0 (pv 0)) (war_cons (we_ty (n := "int") (by rfl) T.int (by decide +kernel)).rd war_nil)) sc_isi (fun t h => pe_callB call_isiA (by rfl) T.isinstance (by decide +kernel) h)) (we_one (we_not (we_cb (war_cons (wr_v 0 (pv 0)) (war_cons (we_ty (n := "bool") (by rfl) T.bool (by decide +kernel)).rd war_nil)) sc_isi (fun t h => pe_callB call_isiA (by rfl) T.isinstance (by decide +kernel) h)))))))) ?_
  rintro ds Q hl ⟨d, rfl, hp, hq⟩
  cases d <;> walk_at "dw"
  case rf => simp [D.plain] at hp
  case ty => simp [D.plain] at hp
  case obj => simp [D.plain] at hp
  case bl =>
    refine isi_b (b := true) rfl (by decide +kernel) ⟨_, rfl, ?_⟩
    walk_at "dw"
    exact isi_b (b := true) rfl (by decide +kernel) ⟨_, rfl, hq⟩
  case int =>
    refine isi_b (b := true) rfl (by decide +kernel) ⟨_, rfl, ?_⟩
    walk_at "dw"
    exact isi_b (b := false) rfl (by decide +kernel) ⟨_, rfl, hq⟩
  all_goals exact isi_b (b := false) rfl (by decide +kernel) ⟨_, rfl, hq⟩

abbrev is_group_s : Stmt := topS 12
theorem is_group_sc : FnScope ["size", "thing", "least", "person"] ["size", "thing"] (defScope is_group_s) := ⟨rfl, rfl, rfl, by decide +kernel, rfl, by decide +kernel, by decide +kernel⟩
theorem is_group_ok {is_group_f : Addr} {is_group_fd : FuncData} (is_group_D : Dfn K mg "is_group" "is_group" is_group_s ["size", "thing"] is_group_f is_group_fd) (T : Bltn mg)
    {is_integer_f : Addr} {is_integer_fd : FuncData} (is_integer_D : Dfn K mg "is_integer" "is_integer" is_integer_s ["thing"] is_integer_f is_integer_fd) (is_integer_G : FnOk P w K mg base CX0 1 is_integer_f is_integer_fd ["thing"] (spOf g 1 spIsInt)) : FnOk P w K mg base CX0 2 is_group_f is_group_fd ["size", "thing"] (spOf g 2 spIsGroup) := by
  refine def_ok is_group_D.F is_group_sc rfl (fun cdv A fr s H E hr =>
    (wss_cons (ws_if (wt_not (wt_val (we_cb (war_cons (wr_v 1 (pv 1)) (war_cons (we_ty (n := "tuple") (by rfl) T.tuple (by decide +kernel)).rd war_nil)) sc_isi (fun t h => pe_callB call_isiA (by rfl) T.isinstance (by decide +kernel) h)))) (wss_one (ws_ret we_bl)) wss_nil)
    (wss_cons (ws_set 2 we_int (fun te h => ps_set (i := 2) is_group_sc.nd rfl (by first | exact Or.inl rfl | exact Or.inr rfl) h))
    (wss_cons (ws_for rfl (wi_seq (we_v 1 (pv 1))) (wg_name 3 (pg_name is_group_sc.nd rfl (by first | exact Or.inl rfl | exact Or.inr rfl)))
    (wss_cons (ws_if (ww_t (ww_or (wt_not (wt_val (we_call (wa_cons (we_v 3 (pv 3)) wa_nil) (fun t h => pe_call is_integer_G (hr.mono (by decide)) (by rfl) is_integer_D.m is_integer_D.F.kp is_integer_D.b .nil pass0 h)))) (ww_or (wt_cmp op_lt s2_B (wr_v 3 (pv 3)) (wr_v 2 (pv 2)) (nomark _)) (ww_or1 (wt_cmp op_ge s2_B (wr_v 3 (pv 3)) (wr_v 0 (pv 0)) (nomark _)))))) (wss_one (ws_ret we_bl)) wss_nil)
    (wss_one (ws_set 2 (we_bin op_addA s2_add (wr_v 3 (pv 3)) (we_int).rd) (fun te h => ps_set (i := 2) is_group_sc.nd rfl (by first | exact Or.inl rfl | exact Or.inr rfl) h)))))
    (wss_one (ws_ret we_bl)))))) ?_
  rintro ds Q hl ⟨n, d, rfl, hp, hq⟩
  cases d
  case rf => simp [D.plain1, D.plain] at hp
  case ty => simp [D.plain1, D.plain] at hp
  case obj => simp [D.plain1, D.plain] at hp
  case tup es =>
    walk_at "dw"
    refine isi_b (b := true) rfl (by decide +kernel) ⟨_, rfl, ?_⟩
    show wFor _ _ _ es [.val (.int n), .val (.tup es), .val (.int 0), .un]
    have hp2 : es.all D.plain = true := hp
    have hq2 : Q false (.bl (isGrp n 0 es)) := hq
    generalize D.tup es = th
    clear hp hq hl
    generalize (0 : Int) = l at hq2 ⊢
    generalize Sl.un = s3
    induction es generalizing l s3 with
    | nil => exact hq2
    | cons d r ih =>
      simp only [List.all_cons, Bool.and_eq_true] at hp2
      refine ⟨d, rfl, hp2.1, _, rfl, ?_⟩
      cases d
      case int p =>
        walk_at "dw"
        rw [if_neg (by simp [D.isInt])]
        simp only [isGrp] at hq2
        by_cases h1 : p < l
        · rw [if_pos h1]
          simpa [h1] using hq2
        · rw [if_neg h1]
          by_cases h2 : n ≤ p
          · rw [if_pos h2]
            simpa [h1, h2] using hq2
          · rw [if_neg h2]
            exact ih hp2.2 (p + 1) (by simpa [h1, h2] using hq2) (.val (.int p))
      all_goals exact hq2
  all_goals walk_at "dw"
  all_goals exact isi_b (b := false) rfl (by decide +kernel) ⟨_, rfl, hq⟩

abbrev is_count_s : Stmt := topS 23
theorem is_count_sc : FnScope ["thing", "limit"] ["thing", "limit"] (defScope is_count_s) := ⟨rfl, rfl, rfl, by decide +kernel, rfl, by decide +kernel, by decide +kernel⟩
theorem is_count_ok {is_count_f : Addr} {is_count_fd : FuncData} (is_count_D : Dfn K mg "is_count" "is_count" is_count_s ["thing", "limit"] is_count_f is_count_fd) (T : Bltn mg)
    {is_integer_f : Addr} {is_integer_fd : FuncData} (is_integer_D : Dfn K mg "is_integer" "is_integer" is_integer_s ["thing"] is_integer_f is_integer_fd) (is_integer_G : FnOk P w K mg base CX0 1 is_integer_f is_integer_fd ["thing"] (spOf g 1 spIsInt)) : FnOk P w K mg base CX0 2 is_count_f is_count_fd ["thing", "limit"] (spOf g 2 spIsCount) := by
  refine def_ok is_count_D.F is_count_sc rfl (fun cdv A fr s H E hr =>
    (wss_one (ws_ret (we_and (we_call (wa_cons (we_v 0 (pv 0)) wa_nil) (fun t h => pe_call is_integer_G (hr.mono (by decide)) (by rfl) is_integer_D.m is_integer_D.F.kp is_integer_D.b .nil pass0 h)) (we_one (we_chain op_le op_le s2_B s2_B (we_int).rd (wr_v 0 (pv 0)) (wr_v 1 (pv 1)) (fun a b c => pe_chain op_le op_le a b c))))))) ?_
  rintro ds Q hl ⟨d, l, rfl, hp, hq⟩
  refine ⟨rfl, d, rfl, hp, _, rfl, ?_⟩
  cases d <;> walk_at "dw"
  case int i =>
    simp only [D.isCount] at hq
    rw [if_pos (by rfl)]
    by_cases h1 : 0 ≤ i
    · rw [if_pos h1]; simpa [h1] using hq
    · rw [if_neg h1]; simpa [h1] using hq
  all_goals exact hq

abbrev is_row_s : Stmt := topS 24
theorem is_row_sc : FnScope ["thing", "limit"] ["thing", "limit"] (defScope is_row_s) := ⟨rfl, rfl, rfl, by decide +kernel, rfl, by decide +kernel, by decide +kernel⟩
theorem is_row_ok {is_row_f : Addr} {is_row_fd : FuncData} (is_row_D : Dfn K mg "is_row" "is_row" is_row_s ["thing", "limit"] is_row_f is_row_fd) (T : Bltn mg) : FnOk P w K mg base CX0 1 is_row_f is_row_fd ["thing", "limit"] (spOf g 2 spIsRow) := by
  refine def_ok is_row_D.F is_row_sc rfl (fun cdv A fr s H E hr =>
    (wss_one (ws_ret (we_and (we_cb (war_cons (wr_v 0 (pv 0)) (war_cons (we_tup (wa_cons (we_ty (n := "list") (by rfl) T.list (by decide +kernel)) (wa_cons (we_ty (n := "tuple") (by rfl) T.tuple (by decide +kernel)) wa_nil))).rd war_nil)) sc_isi (fun t h => pe_callB call_isiA (by rfl) T.isinstance (by decide +kernel) h)) (we_one (we_cmp op_le s2_B (we_cb (war_cons (wr_v 0 (pv 0)) war_nil) sc_len (fun t h => pe_callB call_len_seq (by rfl) T.len (by decide +kernel) h)).rd (wr_v 1 (pv 1)) (nomark _))))))) ?_
  rintro ds Q hl ⟨d, l, rfl, hp, hq⟩
  cases d
  case rf => simp [D.plain] at hp
  case ty => simp [D.plain] at hp
  case obj => simp [D.plain] at hp
  all_goals walk_at "dw"
  case lst xs => exact ⟨le_line (by decide), isi_t (b := true) (c := false) rfl (by decide +kernel) (by decide +kernel) ⟨_, rfl, hq⟩⟩
  case tup xs => exact ⟨le_line (by decide), isi_t (b := false) (c := true) rfl (by decide +kernel) (by decide +kernel) ⟨_, rfl, hq⟩⟩
  all_goals exact ⟨le_line (by decide), isi_t (b := false) (c := false) rfl (by decide +kernel) (by decide +kernel) ⟨_, rfl, hq⟩⟩

end
end K68
namespace K68
open PySem PySem.Spec PyProof.Rows L2 DW
abbrev l_take_s : Stmt := topS 42
theorem l_take_sc : FnScope ["_law_bag_here", "_law_many", "_law_cell", "_law_mix", "_law_value", "_law_first", "_law_second_here"] ["_law_bag_here", "_law_many"] (defScope l_take_s) := ⟨rfl, rfl, rfl, by decide +kernel, rfl, by decide +kernel, by decide +kernel⟩
end K68
namespace DW
open PySem PySem.Spec PyProof.Rows L2
def ifBody : Stmt → List Stmt | .If _ b _ _ => b | _ => []
/-- the bag: where the script was read to -/
def BagAt (b c : Addr) (cs : List Int) (H : Hp) : Prop := (∃ n0 n1 n2 : Int, 0 ≤ n0 ∧ 0 ≤ n1 ∧ n1 < 2147483647 ∧ 0 ≤ n2 ∧ H b = some (.lst [.int n0, .int n1, .int n2, .ref c])) ∧ H c = some (.lst (cs.map V.int)) ∧ b ≠ c
def Bg (b c : Addr) (cs : List Int) : Gd where
  W := fun a => a = b
  T := fun a => a = b ∨ a = c
  G := BagAt b c cs
  wt := fun a h => .inl h
  st := fun H H' e h => by
    obtain ⟨⟨n0, n1, n2, h0, h1, h2, h3, hb⟩, hc, hn⟩ := h
    exact ⟨⟨n0, n1, n2, h0, h1, h2, h3, by rw [e b (.inl rfl)]; exact hb⟩, by rw [e c (.inr rfl)]; exact hc, hn⟩
  tr := fun H h a ha => by
    obtain ⟨⟨n0, n1, n2, h0, h1, h2, h3, hb⟩, hc, hn⟩ := h
    rcases ha with rfl | rfl
    · exact nt_of hb (fun _ z => nomatch z)
    · exact nt_of hc (fun _ z => nomatch z)
/-- an item of a list, to be changed at its place -/
theorem get_list {X : Cx} : PGet X (fun o i H Q => ∃ p xs k v, o = .ref p ∧ i = .int k ∧ H p = some (.lst xs) ∧ 0 ≤ k ∧ k < 2 ^ 63 ∧ xs[k.toNat]? = some v ∧ Q v H) := by
  intro pins s σ H o i ov iv Q I ro ri h
  obtain ⟨p, xs, k, v, rfl, rfl, hp, h0, h1, hx, q⟩ := h
  cases ro
  obtain ⟨t, rfl⟩ := ri
  obtain ⟨its, r, pl, hz⟩ := I.list (.inl (.inl hp))
  obtain ⟨u, hu, ru⟩ := r.get hx
  exact wpAny_getItem_list pl.isList h0 h1 (by simpa using hu) ⟨v, H, I, ru, q⟩
theorem at0 {a b c d : V} : atI [a, b, c, d] 0 = some a := atI_nat (j := 0) rfl
theorem at1 {a b c d : V} : atI [a, b, c, d] 1 = some b := atI_nat (j := 1) rfl
theorem at2 {a b c d : V} : atI [a, b, c, d] 2 = some c := atI_nat (j := 2) rfl
theorem at3 {a b c d : V} : atI [a, b, c, d] 3 = some d := atI_nat (j := 3) rfl
def spTake (b : Addr) (ds : List D) (Q : RQ) : Prop := ∃ m : Int, ds = [.rf b, .int m] ∧ 1 ≤ m ∧ m ≤ 1000000 ∧ ∀ k : Int, 0 ≤ k → k < m → Q false (.int k)
end DW
namespace K68
open PySem PySem.Spec PyProof.Rows L2 DW
section
variable {P : Program} {w : World} {K : PySem.W.Frag} {mg : Str → Option Value} {base : Heap}
theorem ok_take {f b c : Addr} {cs : List Int} {fd : FuncData} (hcs : ∀ n ∈ cs, 0 ≤ n) (F : Fun K "_law_take" "_law_take" l_take_s f fd) (mlen : mg "len" = none) (mint : mg "int" = none) :
    FnOk P w K mg base CX0 1 f fd ["_law_bag_here", "_law_many"] (spOf (Bg b c cs) 2 (spTake b)) := by
  refine F.ok l_take_sc (fun vs H Q E h => h.1) (fun cdv A fr s H vs Q E hr h => ?_)
  obtain ⟨hl, Av, ds, Qd, hg, FO, r, ⟨m, rfl, hm1, hm2, hq⟩, hk⟩ := h
  have ev : vs = [.ref b, .int m] := by
    cases r with
    | cons r1 r2 =>
      cases r1
      cases r2 with
      | cons r3 r4 => cases r3; cases r4; rfl
  subst ev
  obtain ⟨⟨n0, n1, n2, h0, h1, h2, h3, hb⟩, hc, hbc⟩ := id hg
  have hcb : c ≠ b := hbc.symm
  let X := (cxOf CX0 P w K mg base ["_law_bag_here", "_law_many", "_law_cell", "_law_mix", "_law_value", "_law_first", "_law_second_here"] "_law_take" (defScope l_take_s) f cdv A fr s H E).nox
  -- the bag as it stands
  let Sh := fun (H' : Hp) => ∃ n0 n1 n2 : Int, 0 ≤ n0 ∧ 0 ≤ n1 ∧ n1 < 2147483647 ∧ 0 ≤ n2 ∧ H' b = some (.lst [.int n0, .int n1, .int n2, .ref c]) ∧ (∀ a, a ≠ b → H' a = H a)
  have fin : ∀ (H' : Hp) (k : Int), Sh H' → 0 ≤ k → k < m → Q (.int k) H' := by
    rintro H' k ⟨n0, n1, n2, h0, h1, h2, h3, hb', he⟩ k0 k1
    refine hk false (.int k) (.int k) H' ⟨fun a o e n => by rw [he a n]; exact e, ⟨⟨n0, n1, n2, h0, h1, h2, h3, hb'⟩, by rw [he c hcb]; exact hc, hbc⟩⟩ (.old (.int k)) (hq k k0 k1)
  have set_ : ∀ {H1 : Hp} {xs : List V}, (∀ a, a ≠ b → H1 a = H a) → ∀ a, a ≠ b → (upd H1 b (.lst xs)) a = H a := fun h a n => by rw [upd_ne n]; exact h a n
  let inner := ifBody ((defBody l_take_s).getD 0 (.Pass ⟨0, 0, 0, 0⟩))
  have last : ∃ t, PSs X (inner.drop 4) t ∧ ∀ (E : Ends) (H1 : Hp) (n0 n1 n2 cell : Int) (x3 x4 x5 x6 : Option V), 0 ≤ n0 → 0 ≤ n1 → n1 < 2147483647 → 0 ≤ n2 → H1 b = some (.lst [.int n0, .int n1, .int n2, .ref c]) → (∀ a, a ≠ b → H1 a = H a) →
      (∀ (y2 y3 : Option V) H', Sh H' → E.nx [some (.ref b), some (.int m), y2, y3, x4, x5, x6] H') → t E [some (.ref b), some (.int m), some (.int cell), x3, x4, x5, x6] H1 := by
    refine ⟨_, pss_cons (ps_set (i := 3) l_take_sc.nd rfl (Or.inl rfl) (pe_op op_add (pe_op op_mul (pe_ix ix_list (pv 0) pe_int (fun _ _ => rfl)) pe_int) (pe_op op_mod (pe_callTy call_int1 (by rfl) mint (by decide +kernel) (pa_cons (pv 2) pa_nil)) pe_int)))
      (pss_one (ps_asg (pe_op op_mod (pe_callTy call_int1 (by rfl) mint (by decide +kernel) (pa_cons (pe_op op_add (pv 3) (pe_op op_mul pe_int (pe_ix ix_list (pv 0) pe_int (fun _ _ => rfl)))) pa_nil)) pe_int) (pg_sub (pv 0) pe_int set_list))), fun E H1 n0 n1 n2 cell x3 x4 x5 x6 h0 h1 h2 h3 hb he hE => ?_⟩
    refine ⟨_, rfl, b, _, 1, _, rfl, rfl, .inl (.inl hb), at1, n1, 48271, rfl, rfl, .inr ⟨by decide, by decide⟩, _, rfl, .inl ⟨cell, rfl, _, _, rfl, rfl, (show (0 : Int) < 2147483647 by decide), _, _, rfl, rfl, ?_⟩⟩
    refine ⟨_, rfl, _, rfl, b, _, 2, _, rfl, rfl, .inl (.inl hb), at2, 7919, n2, rfl, rfl, .inl ⟨by decide, by decide⟩, _, _, rfl, rfl, .inl ⟨_, rfl, _, _, rfl, rfl, (show (0 : Int) < 2147483647 by decide), _, rfl, b, _, 1, 1, rfl, rfl, hb, rfl, ?_⟩⟩
    exact hE _ _ _ ⟨n0, _, n2, h0, Int.emod_nonneg _ (by decide), Int.emod_lt_of_pos _ (by decide), h3, upd_same, fun a n => by rw [upd_ne n]; exact he a n⟩
  have rest : ∃ t, PSs X (inner.drop 2) t ∧ ∀ (E : Ends) (cell : Int) (x3 x4 x5 x6 : Option V), 0 ≤ cell → (∀ (y2 y3 : Option V) H', Sh H' → E.nx [some (.ref b), some (.int m), y2, y3, x4, x5, x6] H') → t E [some (.ref b), some (.int m), some (.int cell), x3, x4, x5, x6] H := by
    obtain ⟨t4, p4, q4⟩ := last
    refine ⟨_, pss_cons (ps_augS (pv 0) pe_int get_list pe_int ip_add set_list)
      (pss_cons (ps_if (pt_cmpR op_ge (pv 2) pe_int (nomark _)) (pss_one (ps_asg (pv 2) (pg_sub (pv 0) pe_int set_list))) pss_nil) p4), fun E cell x3 x4 x5 x6 hcell hE => ?_⟩
    refine ⟨_, rfl, b, _, 2, _, rfl, rfl, hb, by decide, by decide, rfl, n2, 1, rfl, rfl, b, _, 2, 2, rfl, rfl, hb, rfl, ?_⟩
    refine ⟨_, rfl, cell, _, rfl, rfl, _, rfl, ite2 (fun _ => ?_) (fun _ => ?_)⟩
    · refine ⟨_, rfl, _, rfl, b, _, 0, 0, rfl, rfl, upd_same, rfl, ?_⟩
      exact q4 E _ cell n1 (n2 + 1) cell x3 x4 x5 x6 hcell h1 h2 (by omega) (by rw [upd_same]; rfl) (fun a n => by rw [upd_ne n, upd_ne n]) hE
    · exact q4 E _ n0 n1 (n2 + 1) cell x3 x4 x5 x6 h0 h1 h2 (by omega) (by rw [upd_same]; rfl) (fun a n => by rw [upd_ne n]) hE
  have refill : ∃ t, PS X ((defBody l_take_s).getD 0 (.Pass ⟨0, 0, 0, 0⟩)) t ∧ ∀ (E : Ends) (x2 x3 x4 x5 x6 : Option V), (∀ (y2 y3 : Option V) H', Sh H' → E.nx [some (.ref b), some (.int m), y2, y3, x4, x5, x6] H') → t E [some (.ref b), some (.int m), x2, x3, x4, x5, x6] H := by
    obtain ⟨t4, p4, q4⟩ := rest
    refine ⟨_, ps_if (pt_cmpR op_eq (pe_ix ix_list (pv 0) pe_int (fun _ _ => rfl)) pe_int (nomark _))
      (pss_cons (ps_set (i := 2) l_take_sc.nd rfl (Or.inl rfl) pe_int)
      (pss_cons (ps_if (pt_cmpR op_lt (pe_ix ix_list (pv 0) pe_int (fun _ _ => rfl)) (pe_callB call_len_seq (by rfl) mlen PySem.boot_len (pa_cons (pe_ix ix_list (pv 0) pe_int (fun _ _ => rfl)) pa_nil)) (nomark _))
        (pss_one (ps_set (i := 2) l_take_sc.nd rfl (Or.inl rfl) (pe_ix ix_list (pe_ix ix_list (pv 0) pe_int (fun _ _ => rfl)) (pe_ix ix_list (pv 0) pe_int (fun _ _ => rfl)) (fun _ _ => rfl)))) pss_nil) p4)) pss_nil, fun E x2 x3 x4 x5 x6 hE => ?_⟩
    refine ⟨_, rfl, b, _, 0, _, rfl, rfl, .inl (.inl hb), at0, rfl, _, rfl, ite2 (fun _ => ?_) (fun _ => ?_)⟩
    · refine ⟨_, rfl, b, _, 2, _, rfl, rfl, .inl (.inl hb), at2, _, rfl, b, _, 3, _, rfl, rfl, .inl (.inl hb), at3, c, _, rfl, .inl (.inl (.inl hc)), _, _, rfl, rfl, _, rfl, ite2 (fun q => ?_) (fun _ => ?_)⟩
      · have hlt : n2 < ((cs.map V.int).length : Int) := of_decide_eq_true q
        have hn : n2.toNat < cs.length := by rw [List.length_map] at hlt; omega
        have ga : atI (cs.map V.int) n2 = some (.int cs[n2.toNat]) := by
          have : atI (cs.map V.int) (n2.toNat : Int) = some (.int cs[n2.toNat]) := atI_nat (by simp [hn])
          rwa [show ((n2.toNat : Nat) : Int) = n2 by omega] at this
        refine ⟨_, rfl, b, _, 3, _, rfl, rfl, .inl (.inl hb), at3, _, rfl, b, _, 2, _, rfl, rfl, .inl (.inl hb), at2, c, _, n2, _, rfl, rfl, .inl (.inl hc), ga, ?_⟩
        exact q4 E cs[n2.toNat] x3 x4 x5 x6 (hcs _ (List.getElem_mem hn)) hE
      · exact q4 E 0 x3 x4 x5 x6 (by decide) hE
    · exact hE _ _ H ⟨n0, n1, n2, h0, h1, h2, h3, hb, fun a _ => rfl⟩
  obtain ⟨t1, p1, q1⟩ := refill
  refine ⟨_, pss_cons p1 (pss_cons (ps_if (pt_cmpR op_gt (pe_ix ix_list (pv 0) pe_int (fun _ _ => rfl)) pe_int (nomark _))
      (pss_cons (ps_set (i := 4) l_take_sc.nd rfl (Or.inl rfl) (pe_op op_mod (pe_callTy call_int1 (by rfl) mint (by decide +kernel) (pa_cons (pe_ix ix_list (pv 0) pe_int (fun _ _ => rfl)) pa_nil)) (pv 1)))
      (pss_cons (ps_asg (pe_op op_fdiv (pe_ix ix_list (pv 0) pe_int (fun _ _ => rfl)) (pv 1)) (pg_sub (pv 0) pe_int set_list))
      (pss_one (ps_ret (pv 4))))) pss_nil)
    (pss_cons (ps_set (i := 5) l_take_sc.nd rfl (Or.inl rfl) (pe_op op_mod (pe_callTy call_int1 (by rfl) mint (by decide +kernel) (pa_cons (pe_op op_mul (pe_op op_add (pe_ix ix_list (pv 0) pe_int (fun _ _ => rfl)) pe_int) pe_int) pa_nil)) pe_int))
    (pss_cons (ps_set (i := 6) l_take_sc.nd rfl (Or.inl rfl) (pe_op op_mod (pe_callTy call_int1 (by rfl) mint (by decide +kernel) (pa_cons (pe_op op_mul (pv 5) (pv 5)) pa_nil)) pe_int))
    (pss_one (ps_ret (pe_op op_mod (pe_callTy call_int1 (by rfl) mint (by decide +kernel) (pa_cons (pe_op op_fdiv (pe_op op_mod (pe_callTy call_int1 (by rfl) mint (by decide +kernel) (pa_cons (pe_op op_mul (pv 6) pe_int) pa_nil)) pe_int) pe_int) pa_nil)) (pv 1))))))), ?_⟩
  refine q1 _ none none none none none fun y2 y3 H' hS => ?_
  obtain ⟨m0, m1, m2, g0, g1, g2, g3, gb, ge⟩ := id hS
  have mpos : 0 < m := by omega
  refine ⟨_, rfl, b, _, 0, _, rfl, rfl, .inl (.inl gb), at0, m0, 0, rfl, rfl, _, rfl, ite2 (fun _ => ?_) (fun _ => ?_)⟩
  · refine ⟨_, rfl, b, _, 0, _, rfl, rfl, .inl (.inl gb), at0, .inl ⟨m0, rfl, _, rfl, _, _, rfl, rfl, mpos, ?_⟩⟩
    refine ⟨_, rfl, b, _, 0, _, rfl, rfl, .inl (.inl gb), at0, _, rfl, m0, m, rfl, rfl, ⟨mpos, by omega⟩, _, rfl, b, _, 0, 0, rfl, rfl, gb, rfl, ?_⟩
    refine ⟨_, rfl, fin _ _ ⟨m0 / m, m1, m2, Int.ediv_nonneg g0 (by omega), g1, g2, g3, upd_same, fun a n => by rw [upd_ne n]; exact ge a n⟩ (Int.emod_nonneg _ (by omega)) (Int.emod_lt_of_pos _ mpos)⟩
  · refine ⟨_, rfl, b, _, 1, _, rfl, rfl, .inl (.inl gb), at1, m1, 1, rfl, rfl, _, 39373, rfl, rfl, .inr ⟨by decide, by decide⟩, .inl ⟨_, rfl, _, 1000000007, rfl, rfl, (show (0 : Int) < 1000000007 by decide), ?_⟩⟩
    have b1 : 0 ≤ ((m1 + 1) * 39373) % 1000000007 := Int.emod_nonneg _ (by decide)
    have b2 : ((m1 + 1) * 39373) % 1000000007 < 1000000007 := Int.emod_lt_of_pos _ (by decide)
    refine ⟨_, rfl, _, rfl, _, _, rfl, rfl, .inl ⟨by omega, by omega⟩, .inl ⟨_, rfl, _, 998244353, rfl, rfl, (show (0 : Int) < 998244353 by decide), ?_⟩⟩
    refine ⟨_, rfl, _, 30011, rfl, rfl, .inr ⟨by decide, by decide⟩, .inl ⟨_, rfl, _, 998244353, rfl, rfl, (show (0 : Int) < 998244353 by decide), _, 7, rfl, rfl, ⟨by decide, by decide⟩, .inl ⟨_, rfl, _, rfl, _, _, rfl, rfl, mpos, ?_⟩⟩⟩
    exact fin _ _ hS (Int.emod_nonneg _ (by omega)) (Int.emod_lt_of_pos _ mpos)
end
end K68
namespace DW
open PySem PySem.Spec PyProof.Rows L2

/-! ### job lists, changed -/
def opn (rows : List (List Int)) (grp : List Int) : List Int := ((rows.zipIdx).filter fun p => p.1.any fun x => grp.contains x).map fun p => (p.2 : Int)
def out (n : Int) (r : List Int) : List Int := (rgI n).filter fun k => !r.contains k
def ins (n : Int) (r : List Int) (p : Int) : List Int := (rgI n).filter fun k => r.contains k || k == p
def del (r : List Int) (p : Int) : List Int := r.filter fun k => k != p
def spOthers (ds : List D) (Q : RQ) : Prop := ∃ (n : Int) (r : List Int), ds = [.int n, tI r] ∧ 0 ≤ n ∧ n ≤ 7 ∧ Q false (tI (out n r))
def spOpen (C : Addr) (ds : List D) (Q : RQ) : Prop := ∃ n rows grp, ds = [jO C n rows, tI grp] ∧ good n rows ∧ Q false (tI (opn rows grp))
def spOut (C : Addr) (ds : List D) (Q : RQ) : Prop := ∃ n rows, ∃ (at_ : Nat) (r : List Int), ds = [jO C n rows, .int (at_ : Int)] ∧ good n rows ∧ rows[at_]? = some r ∧ Q false (tI (out n r))
def spWith (C : Addr) (ds : List D) (Q : RQ) : Prop := ∃ n rows, ∃ (at_ : Nat) (r s : List Int), ds = [jO C n rows, .int (at_ : Int), tI s] ∧ good n rows ∧ rows[at_]? = some r ∧ Gp n s ∧ Q false (jO C n (rows.set at_ s))
def spPut (C : Addr) (ds : List D) (Q : RQ) : Prop := ∃ n rows, ∃ (at_ : Nat) (r : List Int) (p : Int), ds = [jO C n rows, .int (at_ : Int), .int p] ∧ good n rows ∧ rows[at_]? = some r ∧ 0 ≤ p ∧ p < n ∧ Q false (jO C n (rows.set at_ (ins n r p)))
def spStruck (C : Addr) (ds : List D) (Q : RQ) : Prop := ∃ n rows, ∃ (at_ : Nat) (r : List Int) (p : Int), ds = [jO C n rows, .int (at_ : Int), .int p] ∧ good n rows ∧ rows[at_]? = some r ∧ Q false (jO C n (rows.set at_ (del r p)))
def spPicked (C : Addr) (ds : List D) (Q : RQ) : Prop := ∃ n rows, ∃ (ix : List Nat), ds = [jO C n rows, tI (ix.map fun (i : Nat) => (i : Int))] ∧ good n rows ∧ ix.length ≤ 7 ∧ (∀ i ∈ ix, i < rows.length) ∧ Q false (jO C n (ix.map fun i => rows.getD i []))
/-! ### the law's own -/
def spOne (b : Addr) (ds : List D) (Q : RQ) : Prop := ∃ xs : List D, ds = [.rf b, .lst xs] ∧ xs ≠ [] ∧ xs.length ≤ 1000000 ∧ ∀ x ∈ xs, Q false x
def spAlike (ds : List D) (Q : RQ) : Prop := ∃ d : D, ds = [d, d] ∧ d.shw ∧ Q false (.bl true)
def spSome (b : Addr) (ds : List D) (Q : RQ) : Prop := ∃ xs : List Int, ds = [.rf b, lI xs] ∧ xs.length ≤ 1000 ∧ ∀ ys : List Int, ys.Sublist xs → Q true (lI ys)
def spJob (b : Addr) (ds : List D) (Q : RQ) : Prop := ∃ n : Int, ds = [.rf b, .int n] ∧ 0 ≤ n ∧ n ≤ 7 ∧ ∀ r, Gp n r → Q false (tI r)
def spJobs (b : Addr) (ds : List D) (Q : RQ) : Prop := ∃ n m : Int, ds = [.rf b, .int n, .int m] ∧ 0 ≤ n ∧ n ≤ 7 ∧ 0 ≤ m ∧ m ≤ 7 ∧ ∀ rows : List (List Int), (rows.length : Int) ≤ m → (∀ r ∈ rows, Gp n r) → Q true (lT rows)
def spRest (ds : List D) (Q : RQ) : Prop := ∃ (n : Int) (r : List Int), ds = [.int n, tI r] ∧ 0 ≤ n ∧ n ≤ 7 ∧ Q false (tI (out n r))
def spLOpen (ds : List D) (Q : RQ) : Prop := ∃ (n : Int) (rows : List (List Int)) (grp : List Int), (ds = [lT rows, tI grp] ∨ ds = [lT rows, lI grp] ∨ ds = [tT rows, tI grp] ∨ ds = [tT rows, lI grp]) ∧ good n rows ∧ Gp n grp ∧ Q false (tI (opn rows grp))
def spLWith (ds : List D) (Q : RQ) : Prop := ∃ (n : Int) (rows : List (List Int)) (at_ : Nat) (r s : List Int), (ds = [lT rows, .int (at_ : Int), tI s] ∨ ds = [tT rows, .int (at_ : Int), tI s]) ∧ good n rows ∧ rows[at_]? = some r ∧ Q false (tT (rows.set at_ s))
def spTold (C : Addr) (ds : List D) (Q : RQ) : Prop := ∃ n rows, ds = [jO C n rows] ∧ Q false (.tup [.int n, tT rows])

/-! ### how what is told of job lists is read -/
section
variable {C : Addr} {n : Int} {rows : List (List Int)} {Q : RQ}
theorem fld_size : Q false (.int n) → mFld "size" C (jO C n rows) Q := fun h => ⟨rfl, _, rfl, h⟩
theorem fld_jobs : Q false (tT rows) → mFld "jobs" C (jO C n rows) Q := fun h => ⟨rfl, _, rfl, h⟩
theorem fld_size_eq : mFld "size" C (jO C n rows) Q = Q false (.int n) := propext ⟨fun ⟨_, d, e, h⟩ => by cases e; exact h, fld_size⟩
theorem fld_jobs_eq : mFld "jobs" C (jO C n rows) Q = Q false (tT rows) := propext ⟨fun ⟨_, d, e, h⟩ => by
  have : d = tT rows := by
    have z : List.lookup ("jobs" : Str) [(("size" : Str), D.int n), (("jobs" : Str), tT rows)] = some (tT rows) := rfl
    exact Option.some.inj (e.symm.trans z)
  subst this; exact h, fld_jobs⟩
end
theorem atI_rows {rows : List (List Int)} {k : Nat} {r : List Int} (h : rows[k]? = some r) : atI (rows.map tI) (k : Int) = some (tI r) := atI_nat (by rw [List.getElem?_map, h]; rfl)
theorem atR {rows : List (List Int)} {k : Nat} {r : List Int} (h : rows[k]? = some r) : (rows.map tI)[k]? = some (tI r) := by rw [List.getElem?_map, h]; rfl
theorem ix_tT {rows : List (List Int)} {k : Nat} {r : List Int} {Q : RQ} (h : rows[k]? = some r) (q : Q false (tI r)) : mIx (tT rows) (.int (k : Int)) Q := ⟨_, atI_rows h, q⟩
theorem ix_lT {rows : List (List Int)} {k : Nat} {r : List Int} {Q : RQ} (h : rows[k]? = some r) (q : Q false (tI r)) : mIx (lT rows) (.int (k : Int)) Q := ⟨_, atI_rows h, q⟩
theorem in_tI {neg : Bool} {x : Int} {ys : List Int} {Q : RQ} (q : Q false (.bl (if neg then !ys.contains x else ys.contains x))) : mIn neg (.int x) (tI ys) Q := ⟨rfl, flat_ints ys, by rw [in_ints]; exact q⟩
theorem in_lI {neg : Bool} {x : Int} {ys : List Int} {Q : RQ} (q : Q false (.bl (if neg then !ys.contains x else ys.contains x))) : mIn neg (.int x) (lI ys) Q := ⟨rfl, flat_ints ys, by rw [in_ints]; exact q⟩
theorem enum_rows (rows : List (List Int)) : enumD (rows.map tI) = rows.zipIdx.map fun p => D.tup [.int (p.2 : Int), tI p.1] := by
  unfold enumD
  rw [List.zipIdx_map, List.map_map]; rfl
theorem zip_mem {α : Type} {xs : List α} {p : α × Nat} (h : p ∈ xs.zipIdx) : xs[p.2]? = some p.1 := List.mem_zipIdx_iff_getElem?.mp h
theorem zip_in {α : Type} {xs : List α} {p : α × Nat} (h : p ∈ xs.zipIdx) : p.1 ∈ xs := List.mem_of_getElem? (zip_mem h)
theorem good.row {n : Int} {rows : List (List Int)} (h : good n rows) {k : Nat} {r : List Int} (e : rows[k]? = some r) : Gp n r := h.gp r (List.mem_of_getElem? e)
theorem good.rlen {n : Int} {rows : List (List Int)} (h : good n rows) {k : Nat} {r : List Int} (e : rows[k]? = some r) : r.length ≤ 7 := gp_len (h.row e) h.n7
theorem good.set {n : Int} {rows : List (List Int)} (h : good n rows) {s : List Int} (hs : Gp n s) (k : Nat) : good n (rows.set k s) := ⟨h.n0, h.n7, by simpa using h.len, fun r hr => by
  rcases List.mem_or_eq_of_mem_set hr with z | rfl
  · exact h.gp r z
  · exact hs⟩
theorem rgOk {n : Int} (h0 : 0 ≤ n) (h7 : n ≤ 1000) : RgOk 0 n := RgOk.of_le (by omega) (by omega) (by omega) h0
theorem rg62_nat {n : Int} (h0 : 0 ≤ n) (h7 : n ≤ 1000) : rg62 n := ⟨by omega, by omega⟩
theorem cut_to (xs : List D) (k : Nat) : cutD xs none (some (k : Int)) = xs.take k := by
  unfold cutD
  rw [HT.sIx_none, HT.sIx_nat, List.drop_zero, Nat.sub_zero]
  by_cases h : k ≤ xs.length
  · rw [Nat.min_eq_left h]
  · rw [Nat.min_eq_right (by omega), List.take_of_length_le (by omega), List.take_of_length_le (by omega)]
theorem cut_from (xs : List D) (k : Nat) : cutD xs (some ((k : Int) + 1)) none = xs.drop (k + 1) := by
  unfold cutD
  rw [show ((k : Int) + 1) = ((k + 1 : Nat) : Int) by omega, HT.sIx_none, HT.sIx_nat]
  by_cases h : k + 1 ≤ xs.length
  · rw [Nat.min_eq_left h, List.take_of_length_le (by rw [List.length_drop]; omega)]
  · rw [Nat.min_eq_right (by omega), List.drop_of_length_le (by omega), List.drop_of_length_le (by omega), List.take_nil]
theorem set_cat {α : Type} {xs : List α} {k : Nat} {x s : α} (h : xs[k]? = some x) : xs.take k ++ [s] ++ xs.drop (k + 1) = xs.set k s := by
  rw [List.set_eq_take_append_cons_drop, if_pos (List.getElem?_eq_some_iff.mp h).1, List.append_assoc]; rfl
theorem ins_rise {n : Int} {r : List Int} {p : Int} (hr : Gp n r) (h0 : 0 ≤ p) (h1 : p < n) {ms : List Int} (hm : ms.Pairwise (· < ·)) (h : ∀ k, k ∈ ms ↔ k ∈ r ∨ k ∈ [p]) : ms = ins n r p := by
  refine rise_uniq hm ((rgI_lt n).sublist List.filter_sublist) fun k => ?_
  unfold ins
  rw [h k, List.mem_filter, mem_rgI]
  simp only [List.mem_singleton, Bool.or_eq_true, List.contains_eq_mem, decide_eq_true_eq, beq_iff_eq]
  constructor
  · rintro (z | rfl)
    · exact ⟨hr.2 k z, .inl z⟩
    · exact ⟨⟨h0, h1⟩, .inr rfl⟩
  · exact fun z => z.2
theorem gp_ins (n : Int) (r : List Int) (p : Int) : Gp n (ins n r p) := (gp_rg n).filter _
theorem gp_out (n : Int) (r : List Int) : Gp n (out n r) := (gp_rg n).filter _
theorem del_eq (r : List Int) (p : Int) : (r.filter fun x => !([p] : List Int).contains x) = del r p := by
  unfold del
  refine List.filter_congr fun x _ => ?_
  simp only [List.contains_cons, List.contains_nil, Bool.or_false]; rfl

/-! ### fit to be shown -/
structure Sh (W P : Nat) (d : D) : Prop where
  t : d.tiny = true
  w : d.wt ≤ W
  p : d.dep ≤ P
structure Shs (W P : Nat) (d : List D) : Prop where
  t : D.tinyAll d = true
  w : D.wtAll d ≤ W
  p : D.depAll d ≤ P
theorem Sh.shw {W P : Nat} {d : D} (h : Sh W P d) (hw : W ≤ 3000 := by decide) (hp : P ≤ 60 := by decide) : d.shw := ⟨h.t, Nat.le_trans h.w hw, Nat.le_trans h.p hp⟩
theorem sh_int {i : Int} (h : i.natAbs < 10 ^ 36) : Sh 1 0 (.int i) := ⟨decide_eq_true h, Nat.le_refl _, Nat.le_refl _⟩
theorem sh_bl {b : Bool} : Sh 0 0 (.bl b) := ⟨rfl, Nat.le_refl _, Nat.le_refl _⟩
theorem shs_nil : Shs 0 0 [] := ⟨rfl, Nat.le_refl _, Nat.le_refl _⟩
theorem shs_cons {W P W' P' : Nat} {d : D} {ds : List D} (h : Sh W P d) (r : Shs W' P' ds) : Shs (W + 1 + W') (max P P') (d :: ds) := ⟨by simp only [D.tinyAll, h.t, r.t, Bool.and_self], by
  have := h.w
  have := r.w
  show d.wt + 1 + D.wtAll ds ≤ _
  omega, by
  have := h.p
  have := r.p
  show max d.dep (D.depAll ds) ≤ _
  omega⟩
theorem sh_tup {W P : Nat} {ds : List D} (r : Shs W P ds) : Sh W (P + 1) (.tup ds) := ⟨r.t, r.w, Nat.succ_le_succ r.p⟩
theorem sh_lst {W P : Nat} {ds : List D} (r : Shs W P ds) : Sh W (P + 1) (.lst ds) := ⟨r.t, r.w, Nat.succ_le_succ r.p⟩
theorem shs_map {α : Type} {W P k : Nat} (f : α → D) : ∀ (xs : List α), (∀ x ∈ xs, Sh W P (f x)) → xs.length ≤ k → Shs (k * (W + 1)) P (xs.map f)
  | [], _, _ => ⟨rfl, Nat.zero_le _, Nat.zero_le _⟩
  | x :: xs, h, l => by
    have r := shs_map (k := xs.length) f xs (fun y hy => h y (List.mem_cons_of_mem _ hy)) (Nat.le_refl _)
    have c := shs_cons (h x List.mem_cons_self) r
    refine ⟨c.t, Nat.le_trans c.w ?_, Nat.le_trans c.p (by omega)⟩
    have : (xs.length + 1) * (W + 1) ≤ k * (W + 1) := Nat.mul_le_mul_right _ l
    rw [Nat.succ_mul] at this
    omega
theorem small_int {n x : Int} (h : 0 ≤ x ∧ x < n) (hn : n ≤ 1000) : Sh 1 0 (.int x) := sh_int (Nat.lt_of_lt_of_le (show x.natAbs < 1000 by omega) (by decide))
theorem shs_ints {n : Int} {r : List Int} (h : Gp n r) (h7 : n ≤ 7) : Shs 14 0 (r.map D.int) := shs_map (k := 7) D.int r (fun x hx => small_int (h.2 x hx) (by omega)) (gp_len h h7)
theorem sh_tI {n : Int} {r : List Int} (h : Gp n r) (h7 : n ≤ 7) : Sh 14 1 (tI r) := sh_tup (shs_ints h h7)
theorem sh_lI {n : Int} {r : List Int} (h : Gp n r) (h7 : n ≤ 7) : Sh 14 1 (lI r) := sh_lst (shs_ints h h7)
theorem sh_tT {n : Int} {rows : List (List Int)} (h : good n rows) : Sh 105 2 (tT rows) := sh_tup (shs_map (k := 7) tI rows (fun r hr => sh_tI (h.gp r hr) h.n7) h.len)
theorem sh_lT {n : Int} {rows : List (List Int)} (h : good n rows) : Sh 105 2 (lT rows) := sh_lst (shs_map (k := 7) tI rows (fun r hr => sh_tI (h.gp r hr) h.n7) h.len)
theorem ne_nil {ds : List D} {W P : Nat} {Q : RQ} (h : Shs W P ds) (hp : P ≤ 50) (q : Q false (.bl (!ds.isEmpty))) : mNeF (.lst ds) (.lst []) Q := by
  refine .inr ⟨⟨h.t, Nat.le_trans (Nat.succ_le_succ h.p) (by omega)⟩, ⟨rfl, by decide⟩, ?_⟩
  cases ds with
  | nil => exact q
  | cons x xs => simpa [D.py, D.pyAll, PyData.eqv, PyData.eqvAll] using q
theorem len_lT {rows : List (List Int)} {Q : RQ} (h : Q false (.int (rows.length : Int))) : mLen [lT rows] Q := by
  show Q false (.int ((rows.map tI).length : Int))
  rw [List.length_map]; exact h
theorem len_tT {rows : List (List Int)} {Q : RQ} (h : Q false (.int (rows.length : Int))) : mLen [tT rows] Q := by
  show Q false (.int ((rows.map tI).length : Int))
  rw [List.length_map]; exact h
theorem rgI_at {n : Nat} {i : Nat} {x : Int} (h : (rgI (n : Int))[i]? = some x) : x = (i : Int) ∧ i < n := by
  have hl := (List.getElem?_eq_some_iff.mp h).1
  rw [rgI_len, Int.toNat_natCast] at hl
  unfold rgI at h
  rw [List.getElem?_map, Int.toNat_natCast, List.getElem?_range hl] at h
  exact ⟨(Option.some.inj h).symm, hl⟩
theorem rg0 (n : Int) : (List.range n.toNat).map (fun (i : Nat) => D.int (0 + (i : Int))) = (rgI n).map D.int := by
  unfold rgI
  rw [List.map_map]
  refine List.map_congr_left fun i _ => ?_
  show D.int (0 + (i : Int)) = D.int (i : Int)
  rw [Int.zero_add]
theorem take_one {α : Type} {xs : List α} {i : Nat} {x : α} (h : xs[i]? = some x) : xs.take (i + 1) = xs.take i ++ [x] := by
  rw [List.take_add_one, h]; rfl
def opnK (rows : List (List Int)) (grp : List Int) (k : Nat) : List Int := (((rows.zipIdx).take k).filter fun p => p.1.any fun x => grp.contains x).map fun p => (p.2 : Int)
theorem opnK_all (rows : List (List Int)) (grp : List Int) : opnK rows grp rows.length = opn rows grp := by
  unfold opnK opn
  rw [List.take_of_length_le (by simp)]
theorem opnK_step {rows : List (List Int)} {grp r : List Int} {k : Nat} (h : rows[k]? = some r) : opnK rows grp (k + 1) = if (r.any fun x => grp.contains x) = true then opnK rows grp k ++ [(k : Int)] else opnK rows grp k := by
  unfold opnK
  have e : (rows.zipIdx)[k]? = some (r, k) := by rw [List.getElem?_zipIdx, h]; simp
  rw [take_one e, List.filter_append, List.map_append]
  cases q : (r.any fun x => grp.contains x) with
  | true => rw [List.filter_cons_of_pos (by simpa using q)]; rfl
  | false => rw [List.filter_cons_of_neg (by simpa using q)]; simp
theorem both_any (r grp : List Int) : (!((grp.filter fun x => r.contains x).map D.int).isEmpty) = (r.any fun x => grp.contains x) := by
  rw [Bool.eq_iff_iff]
  simp only [Bool.not_eq_true', List.isEmpty_eq_false_iff, ne_eq, List.map_eq_nil_iff, List.any_eq_true, List.contains_eq_mem, decide_eq_true_eq]
  constructor
  · intro h
    obtain ⟨x, hx⟩ := List.exists_mem_of_ne_nil _ h
    rw [List.mem_filter] at hx
    exact ⟨x, by simpa using hx.2, hx.1⟩
  · rintro ⟨x, h1, h2⟩ e
    have : x ∈ grp.filter fun x => decide (x ∈ r) := List.mem_filter.mpr ⟨h2, by simpa using h1⟩
    rw [e] at this; cases this
theorem opnK_len (rows : List (List Int)) (grp : List Int) (k : Nat) : (opnK rows grp k).length ≤ rows.length := by
  unfold opnK
  rw [List.length_map]
  refine Nat.le_trans (List.length_filter_le _ _) ?_
  rw [List.length_take, List.length_zipIdx]
  omega

def spEqJ (C : Addr) (ds : List D) (Q : RQ) : Prop := ∃ (n m : Int) (r s : List (List Int)), ds = [jO C n r, jO C m s] ∧ good n r ∧ good m s ∧ Q false (.bl (decide (n = m ∧ r = s)))
def absI (ns : List Int) : List Int := (ns.take 63).map fun i => if i < 0 then -i else i
def spBag (a : Addr) (ns : List Int) (ds : List D) (Q : RQ) : Prop := ds = [.rf a] ∧ Q true (.lst [.int 0, .int 987654321, .int 0, lI (absI ns)])

theorem absI_pos (ns : List Int) : ∀ n ∈ absI ns, 0 ≤ n := fun n hn => by
  obtain ⟨i, _, rfl⟩ := List.mem_map.mp hn
  show 0 ≤ if i < 0 then -i else i
  split <;> omega
theorem absI_len (ns : List Int) : (absI ns).length ≤ 63 := by
  unfold absI
  rw [List.length_map, List.length_take]; omega
theorem good.shT {n : Int} {rows : List (List Int)} (h : good n rows) : (tT rows).shw := (sh_tT h).shw
theorem eq_rows {n m : Int} {r s : List (List Int)} {Q : RQ} (h1 : good n r) (h2 : good m s) (q : Q false (.bl (decide (r = s)))) : mEqF (tT r) (tT s) Q := eq_data h1.shT h2.shT (by
  rw [show PyData.eqv (tT r).py (tT s).py = PyData.eqvAll (D.pyAll (r.map tI)) (D.pyAll (s.map tI)) by simp only [tT, D.py, PyData.eqv], eqv_rows]; exact q)

def spSomeD (b : Addr) (ds : List D) (Q : RQ) : Prop := spSome b ds Q ∨ ∃ rows : List (List Int), ds = [.rf b, lT rows] ∧ rows.length ≤ 1000 ∧ ∀ ys : List (List Int), ys.Sublist rows → Q true (lT ys)
end DW
namespace K68
open PySem PySem.Spec PyProof.Rows L2 DW
local macro_rules | `(tactic| walk_at "dw") => `(tactic| simp only [rdS_0, rdS_s, rdO_0, rdO_1, rdO_s, startS, endD, mAdd_i, mAdd_b, mAdd_l, mAdd_t, mI_i, mIC_i, mB_i, mLen_l, mLen_t, mList_l, mList_t, mTuple_l, mTuple_t, mInt1_i, mInt1_b, mAbs_i, mIx_l, mIx_t, mSl_l, mSl_t, mSeq_l, mSeq_t, mEnum_l, mEnum_t, mFld_o, mExt_l, mRev_l, mRepr_1, put_f, put_t, frz_0, frz_1, frz_2, frz_s, wpS_0, wpS_1, DW.putAll,
  List.map_cons, List.map_nil, List.cons_append, List.nil_append, List.length_cons, List.length_nil, List.replicate_succ, List.replicate_zero, List.set_cons_zero, List.set_cons_succ, List.set_nil, Nat.reduceAdd, Nat.reduceSub, Nat.zero_add, Bool.not_true, Bool.not_false, if_true, if_false, Bool.false_eq_true, and_true, true_and, decide_eq_true_eq, eq_self, Bool.and_eq_true, Bool.or_eq_true, Bool.not_eq_true, D.bl.injEq, D.int.injEq, D.lst.injEq, D.tup.injEq, exists_eq_left', exists_eq_left, exists_eq_right])
section
variable {g : Gd} {P : Program} {w : World} {K : PySem.W.Frag} {mg : Str → Option Value} {base : Heap} {CJ CFm b c sa : Addr} {cs ns : List Int} {tr : Prop}
abbrev l_one_s : Stmt := topS 43
theorem l_one_sc : FnScope ["_law_bag_here", "_law_things"] ["_law_bag_here", "_law_things"] (defScope l_one_s) := ⟨rfl, rfl, rfl, by decide +kernel, rfl, by decide +kernel, by decide +kernel⟩
theorem l_one_ok {l_one_f : Addr} {l_one_fd : FuncData} (l_one_D : Dfn K mg "_law_one" "_law_one" l_one_s ["_law_bag_here", "_law_things"] l_one_f l_one_fd) (T : Bltn mg)
    {l_take_f : Addr} {l_take_fd : FuncData} (l_take_D : Dfn K mg "_law_take" "_law_take" l_take_s ["_law_bag_here", "_law_many"] l_take_f l_take_fd) (l_take_G : FnOk P w K mg base CX0 1 l_take_f l_take_fd ["_law_bag_here", "_law_many"] (spOf (Bg b c cs) 2 (spTake b))) : FnOk P w K mg base CX0 2 l_one_f l_one_fd ["_law_bag_here", "_law_things"] (spOf (Bg b c cs) 2 (spOne b)) := by
  refine def_ok l_one_D.F l_one_sc rfl (fun cdv A fr s H E hr =>
    (wss_one (ws_ret (we_ix ix_seq s2_ix (wr_v 1 (pv 1)) (we_call (wa_cons (we_v 0 (pv 0)) (wa_cons (we_cb (war_cons (wr_v 1 (pv 1)) war_nil) sc_len (fun t h => pe_callB call_len_seq (by rfl) T.len (by decide +kernel) h)) wa_nil)) (fun t h => pe_call l_take_G (hr.mono (by decide)) (by rfl) l_take_D.m l_take_D.F.kp l_take_D.b .nil pass0 h)).rd)))) ?_
  rintro ds Q hl ⟨xs, rfl, hne, hl2, hq⟩
  walk_at "dw"
  have hp : 0 < xs.length := List.length_pos_iff.mpr hne
  refine ⟨_, rfl, by omega, by omega, fun k h0 h1 => ?_⟩
  have hk : k.toNat < xs.length := by omega
  refine ⟨xs[k.toNat], ?_, hq _ (List.getElem_mem hk)⟩
  have : atI xs (k.toNat : Int) = some xs[k.toNat] := atI_nat (by simp [hk])
  rwa [show ((k.toNat : Nat) : Int) = k by omega] at this

abbrev l_alike_s : Stmt := topS 56
theorem l_alike_sc : FnScope ["_law_found", "_law_due_here"] ["_law_found", "_law_due_here"] (defScope l_alike_s) := ⟨rfl, rfl, rfl, by decide +kernel, rfl, by decide +kernel, by decide +kernel⟩
theorem l_alike_ok {l_alike_f : Addr} {l_alike_fd : FuncData} (l_alike_D : Dfn K mg "_law_alike" "_law_alike" l_alike_s ["_law_found", "_law_due_here"] l_alike_f l_alike_fd) (T : Bltn mg) : FnG P w K mg base CX0 1 l_alike_f l_alike_fd ["_law_found", "_law_due_here"] (spOf g 2 spAlike) := by
  refine def_okG l_alike_D.F l_alike_sc rfl (fun cdv A fr s H E gd hr =>
    (wss_one (ws_ret (we_and (we_cmp (op_eqF hr.units) s2_eqF (wr_v 0 (pv 0)) (wr_v 1 (pv 1)) (nomark _)) (we_one (we_cmp (op_eqF hr.units) s2_eqF (we_cb (war_cons (wr_v 0 (pv 0)) war_nil) sc_repr (fun t h => pe_callB (cr_repr gd hr.units) (by rfl) T.repr (by decide +kernel) h)).rd (we_cb (war_cons (wr_v 1 (pv 1)) war_nil) sc_repr (fun t h => pe_callB (cr_repr gd hr.units) (by rfl) T.repr (by decide +kernel) h)).rd (nomark _))))))) ?_
  rintro ds Q hl ⟨d, rfl, hs, hq⟩
  walk_at "dw"
  refine eq_me hs ⟨_, rfl, ?_⟩
  rw [if_pos rfl]
  exact ⟨hs, hs, eq_str (by rw [decide_eq_true rfl]; exact hq)⟩

abbrev l_some_s : Stmt := topS 44
theorem l_some_sc : FnScope ["_law_bag_here", "_law_things", "_law_one_here"] ["_law_bag_here", "_law_things"] (defScope l_some_s) := ⟨rfl, rfl, rfl, by decide +kernel, rfl, by decide +kernel, by decide +kernel⟩
theorem l_some_ok {l_some_f : Addr} {l_some_fd : FuncData} (l_some_D : Dfn K mg "_law_some" "_law_some" l_some_s ["_law_bag_here", "_law_things"] l_some_f l_some_fd) (T : Bltn mg)
    {l_take_f : Addr} {l_take_fd : FuncData} (l_take_D : Dfn K mg "_law_take" "_law_take" l_take_s ["_law_bag_here", "_law_many"] l_take_f l_take_fd) (l_take_G : FnOk P w K mg base CX0 1 l_take_f l_take_fd ["_law_bag_here", "_law_many"] (spOf (Bg b c cs) 2 (spTake b))) : FnOk P w K mg base CX0 2 l_some_f l_some_fd ["_law_bag_here", "_law_things"] (spOf (Bg b c cs) 2 (spSomeD b)) := by
  refine def_ok l_some_D.F l_some_sc rfl (fun cdv A fr s H E hr =>
    (wss_one (ws_ret (we_lc (own := [("_law_one_here", 2)]) rfl l_some_sc.nd (wi_seq (we_v 1 (pv 1))) (blkOk_by (N := ["_law_bag_here", "_law_things", "_law_one_here"]) (sc := defScope l_some_s) (own := [("_law_one_here", 2)]) (by decide +kernel)) (fun _ => (wg_name 2 (pg_name l_some_sc.nd rfl (by first | exact Or.inl rfl | exact Or.inr rfl)))) (fun _ => (wts_one (wt_cmp (op_eqF hr.units) s2_eqF (we_call (wa_cons (we_v 0 (pv 0)) (wa_cons we_int wa_nil)) (fun t h => pe_call l_take_G (hr.mono (by decide)) (by rfl) l_take_D.m l_take_D.F.kp l_take_D.b .nil pass0 h)).rd (we_int).rd (nomark _)))) (fun _ => (we_v 2 (pv 2))))))) ?_
  rintro ds Q hl (⟨xs, rfl, hl2, hq⟩ | ⟨xs, rfl, hl2, hq⟩)
  · walk_at "dw"
    show (xs.map D.int).length < sizeLine ∧ wLc _ _ _ _ (xs.map D.int) _
    refine ⟨small_line (by simp; omega), wLc_some D.int D.int xs _ (fun x hx R1 R0 h1 h0 => ?_) fun ys hy => hq ys hy⟩
    walk_at "dw"
    refine ⟨2, rfl, by decide, by decide, fun k _ _ => eq_int ⟨_, rfl, ?_⟩⟩
    cases decide (k = 1)
    · exact h0
    · exact h1
  · walk_at "dw"
    show (xs.map tI).length < sizeLine ∧ wLc _ _ _ _ (xs.map tI) _
    refine ⟨small_line (by simp; omega), wLc_some tI tI xs _ (fun x hx R1 R0 h1 h0 => ?_) fun ys hy => hq ys hy⟩
    walk_at "dw"
    refine ⟨2, rfl, by decide, by decide, fun k _ _ => eq_int ⟨_, rfl, ?_⟩⟩
    cases decide (k = 1)
    · exact h0
    · exact h1

abbrev l_job_s : Stmt := topS 45
theorem l_job_sc : FnScope ["_law_bag_here", "_law_size", "_law_way", "_law_job_here"] ["_law_bag_here", "_law_size"] (defScope l_job_s) := ⟨rfl, rfl, rfl, by decide +kernel, rfl, by decide +kernel, by decide +kernel⟩
theorem l_job_ok {l_job_f : Addr} {l_job_fd : FuncData} (l_job_D : Dfn K mg "_law_job" "_law_job" l_job_s ["_law_bag_here", "_law_size"] l_job_f l_job_fd) (T : Bltn mg)
    {l_some_f : Addr} {l_some_fd : FuncData} (l_some_D : Dfn K mg "_law_some" "_law_some" l_some_s ["_law_bag_here", "_law_things"] l_some_f l_some_fd) (l_some_G : FnOk P w K mg base CX0 2 l_some_f l_some_fd ["_law_bag_here", "_law_things"] (spOf (Bg b c cs) 2 (spSomeD b)))
    {l_take_f : Addr} {l_take_fd : FuncData} (l_take_D : Dfn K mg "_law_take" "_law_take" l_take_s ["_law_bag_here", "_law_many"] l_take_f l_take_fd) (l_take_G : FnOk P w K mg base CX0 1 l_take_f l_take_fd ["_law_bag_here", "_law_many"] (spOf (Bg b c cs) 2 (spTake b))) : FnOk P w K mg base CX0 3 l_job_f l_job_fd ["_law_bag_here", "_law_size"] (spOf (Bg b c cs) 2 (spJob b)) := by
  refine def_ok l_job_D.F l_job_sc rfl (fun cdv A fr s H E hr =>
    (wss_cons (ws_set 2 (we_call (wa_cons (we_v 0 (pv 0)) (wa_cons we_int wa_nil)) (fun t h => pe_call l_take_G (hr.mono (by decide)) (by rfl) l_take_D.m l_take_D.F.kp l_take_D.b .nil pass0 h)) (fun te h => ps_set (i := 2) l_job_sc.nd rfl (by first | exact Or.inl rfl | exact Or.inr rfl) h))
    (wss_cons (ws_if (wt_cmp (op_eqF hr.units) s2_eqF (wr_v 2 (pv 2)) (we_int).rd (nomark _)) (wss_one (ws_ret (we_tupRg1 (we_v 1 (pv 1)) rfl (by rfl) T.tuple (by rfl) T.range))) wss_nil)
    (wss_cons (ws_set 3 (we_call (wa_cons (we_v 0 (pv 0)) (wa_cons (we_listRg1 (we_v 1 (pv 1)) rfl (by rfl) T.list (by rfl) T.range) wa_nil)) (fun t h => pe_call l_some_G (hr.mono (by decide)) (by rfl) l_some_D.m l_some_D.F.kp l_some_D.b .nil pass0 h)) (fun te h => ps_set (i := 3) l_job_sc.nd rfl (by first | exact Or.inl rfl | exact Or.inr rfl) h))
    (wss_cons (ws_if (wt_cmp op_lt s2_B (wr_v 2 (pv 2)) (we_int).rd (nomark _)) (wss_one (ws_set 3 (we_call (wa_cons (we_v 0 (pv 0)) (wa_cons (we_v 3 (pv 3)) wa_nil)) (fun t h => pe_call l_some_G (hr.mono (by decide)) (by rfl) l_some_D.m l_some_D.F.kp l_some_D.b .nil pass0 h)) (fun te h => ps_set (i := 3) l_job_sc.nd rfl (by first | exact Or.inl rfl | exact Or.inr rfl) h))) wss_nil)
    (wss_one (ws_ret (we_cb (war_cons (wr_v 3 (pv 3)) war_nil) sc_tuple (fun t h => pe_callTy call_tuple_of (by rfl) T.tuple (by decide +kernel) h))))))))) ?_
  rintro ds Q hl ⟨n, rfl, h0, h7, hq⟩
  walk_at "dw"
  have hl7 : (rgI n).length ≤ 1000 := by rw [rgI_len]; omega
  refine ⟨6, rfl, by decide, by decide, fun k k0 k1 => eq_int ⟨_, rfl, ?_⟩⟩
  rw [rgD_rgI]
  split
  · exact ⟨rgOk h0 (by omega), hq _ (gp_rg n)⟩
  · refine ⟨rgOk h0 (by omega), .inl ⟨rgI n, rfl, hl7, fun ys hy => ?_⟩⟩
    refine ⟨_, rfl, ?_⟩
    split
    · exact .inl ⟨ys, rfl, Nat.le_trans hy.length_le hl7, fun zs hz => hq zs ((gp_rg n).sub (hz.trans hy))⟩
    · exact hq ys ((gp_rg n).sub hy)

abbrev l_jobs_s : Stmt := topS 46
theorem l_jobs_sc : FnScope ["_law_bag_here", "_law_size", "_law_most", "_law_jobs_here", "_law_k"] ["_law_bag_here", "_law_size", "_law_most"] (defScope l_jobs_s) := ⟨rfl, rfl, rfl, by decide +kernel, rfl, by decide +kernel, by decide +kernel⟩
theorem l_jobs_ok {l_jobs_f : Addr} {l_jobs_fd : FuncData} (l_jobs_D : Dfn K mg "_law_jobs" "_law_jobs" l_jobs_s ["_law_bag_here", "_law_size", "_law_most"] l_jobs_f l_jobs_fd) (T : Bltn mg)
    {l_job_f : Addr} {l_job_fd : FuncData} (l_job_D : Dfn K mg "_law_job" "_law_job" l_job_s ["_law_bag_here", "_law_size"] l_job_f l_job_fd) (l_job_G : FnOk P w K mg base CX0 3 l_job_f l_job_fd ["_law_bag_here", "_law_size"] (spOf (Bg b c cs) 2 (spJob b)))
    {l_one_f : Addr} {l_one_fd : FuncData} (l_one_D : Dfn K mg "_law_one" "_law_one" l_one_s ["_law_bag_here", "_law_things"] l_one_f l_one_fd) (l_one_G : FnOk P w K mg base CX0 2 l_one_f l_one_fd ["_law_bag_here", "_law_things"] (spOf (Bg b c cs) 2 (spOne b)))
    {l_take_f : Addr} {l_take_fd : FuncData} (l_take_D : Dfn K mg "_law_take" "_law_take" l_take_s ["_law_bag_here", "_law_many"] l_take_f l_take_fd) (l_take_G : FnOk P w K mg base CX0 1 l_take_f l_take_fd ["_law_bag_here", "_law_many"] (spOf (Bg b c cs) 2 (spTake b))) : FnOk P w K mg base CX0 4 l_jobs_f l_jobs_fd ["_law_bag_here", "_law_size", "_law_most"] (spOf (Bg b c cs) 3 (spJobs b)) := by
  refine def_ok l_jobs_D.F l_jobs_sc rfl (fun cdv A fr s H E hr =>
    (wss_cons (ws_own 3 (we_lst wa_nil) (fun te h => ps_set (i := 3) l_jobs_sc.nd rfl (by first | exact Or.inl rfl | exact Or.inr rfl) h))
    (wss_cons (ws_for rfl (wi_rg1 (we_call (wa_cons (we_v 0 (pv 0)) (wa_cons (we_bin op_addA s2_add (wr_v 2 (pv 2)) (we_int).rd) wa_nil)) (fun t h => pe_call l_take_G (hr.mono (by decide)) (by rfl) l_take_D.m l_take_D.F.kp l_take_D.b .nil pass0 h)) (by rfl) T.range) (wg_name 4 (pg_name l_jobs_sc.nd rfl (by first | exact Or.inl rfl | exact Or.inr rfl)))
    (wss_one (ws_if (ww_t (ww_and (wt_cmp (op_neF hr.units) s2_neF (wr_v 3 (pv 3)) (we_lst wa_nil).rd (nomark _)) (ww_and1 (wt_cmp (op_eqF hr.units) s2_eqF (we_call (wa_cons (we_v 0 (pv 0)) (wa_cons we_int wa_nil)) (fun t h => pe_call l_take_G (hr.mono (by decide)) (by rfl) l_take_D.m l_take_D.F.kp l_take_D.b .nil pass0 h)).rd (we_int).rd (nomark _))))) (wss_one (ws_appendE 3 (we_lend (war_cons (wr_v 0 (pv 0)) (war_cons (wr_v 3 (pv 3)) war_nil)) (fun t h => pe_call l_one_G (hr.mono (by decide)) (by rfl) l_one_D.m l_one_D.F.kp l_one_D.b .nil pass0 h)) (fun te h => ps_expr (pe_bm PySem.F.plainAttrs_list PySem.F.slot_list_append PySem.F.type_list_append mt_append (pv 3) (pa_cons h pa_nil))))) (wss_one (ws_appendE 3 (we_call (wa_cons (we_v 0 (pv 0)) (wa_cons (we_v 1 (pv 1)) wa_nil)) (fun t h => pe_call l_job_G (hr.mono (by decide)) (by rfl) l_job_D.m l_job_D.F.kp l_job_D.b .nil pass0 h)) (fun te h => ps_expr (pe_bm PySem.F.plainAttrs_list PySem.F.slot_list_append PySem.F.type_list_append mt_append (pv 3) (pa_cons h pa_nil))))))))
    (wss_one (ws_retO 3 (pv 3)))))) ?_
  rintro ds Q hl ⟨n, m, rfl, h0, h7, m0, m7, hq⟩
  walk_at "dw"
  refine ⟨Nat.zero_le _, m + 1, rfl, by omega, by omega, fun k k0 k1 => ⟨k, rfl, rg62_nat k0 (by omega), ?_⟩⟩
  refine wFor_inv (fun i st => ∃ s4, ∃ rows : List (List Int), st = [.val (.rf b), .val (.int n), .val (.int m), .own (rows.map tI), s4] ∧ rows.length = i ∧ ∀ r ∈ rows, Gp n r) (fun _ _ _ => trivial) _ 0 _ ⟨.un, [], rfl, rfl, fun r h => nomatch h⟩ ?_ ?_
  · rintro i d hi st ⟨s4, rows, rfl, hlen, hgp⟩ K hK
    have hi7 : i < k.toNat := by
      have := (List.getElem?_eq_some_iff.mp hi).1
      simpa using this
    have hl8 : rows.length ≤ 7 := by omega
    have hadd : ∀ r, Gp n r → K [.val (.rf b), .val (.int n), .val (.int m), .own (rows.map tI ++ [tI r]), .val d] := fun r hr => hK _ ⟨_, rows ++ [r], by rw [List.map_append]; rfl, by rw [List.length_append, hlen]; simp, fun s hs => by
      rcases List.mem_append.mp hs with z | z
      · exact hgp s z
      · rw [List.mem_singleton.mp z]; exact hr⟩
    have hsz : (rows.map tI).length < sizeLine := small_line (by simp; omega)
    have new : spJob b [.rf b, .int n] fun _ d1 => (rows.map tI).length < sizeLine ∧ K [.val (.rf b), .val (.int n), .val (.int m), .own (rows.map tI ++ [d1]), .val d] := ⟨n, rfl, h0, h7, fun r hr => ⟨hsz, hadd r hr⟩⟩
    walk_at "dw"
    refine ⟨Nat.zero_le _, ne_nil (shs_map (k := 7) tI rows (fun r hr => sh_tI (hgp r hr) h7) hl8) (by decide) ⟨_, rfl, ?_⟩⟩
    split
    · rename_i hne
      refine ⟨5, rfl, by decide, by decide, fun q q0 q1 => eq_int ⟨_, rfl, ?_⟩⟩
      split
      · refine ⟨_, rfl, rows.map tI, rfl, (by rintro e; rw [e] at hne; exact nomatch hne), (by simp; omega), fun x hx => ?_⟩
        obtain ⟨r, hr, rfl⟩ := List.mem_map.mp hx
        exact ⟨imm_ints r, hsz, hadd r (hgp r hr)⟩
      · exact ⟨_, rfl, new⟩
    · exact ⟨_, rfl, new⟩
  · rintro st ⟨s4, rows, rfl, hlen, hgp⟩
    refine ⟨_, rfl, hq rows ?_ hgp⟩
    rw [hlen]
    simp; omega

abbrev l_bag_s : Stmt := topS 41
theorem l_bag_sc : FnScope ["_law_script", "_law_cell"] ["_law_script"] (defScope l_bag_s) := ⟨rfl, rfl, rfl, by decide +kernel, rfl, by decide +kernel, by decide +kernel⟩
theorem l_bag_ok {l_bag_f : Addr} {l_bag_fd : FuncData} (l_bag_D : Dfn K mg "_law_bag" "_law_bag" l_bag_s ["_law_script"] l_bag_f l_bag_fd) (T : Bltn mg) : FnOk P w K mg base CX0 1 l_bag_f l_bag_fd ["_law_script"] (spOf (gS K sa (ns.map V.int) tr) 1 (spBag sa ns)) := by
  refine def_ok l_bag_D.F l_bag_sc rfl (fun cdv A fr s H E hr =>
    (wss_one (ws_ret (we_lst (wa_cons we_int (wa_cons we_int (wa_cons we_int (wa_cons (we_lc (own := [("_law_cell", 1)]) rfl l_bag_sc.nd (wi_seq (we_sliceS (pv 0) (by decide))) (blkOk_by (N := ["_law_script", "_law_cell"]) (sc := defScope l_bag_s) (own := [("_law_cell", 1)]) (by decide +kernel)) (fun _ => (wg_name 1 (pg_name l_bag_sc.nd rfl (by first | exact Or.inl rfl | exact Or.inr rfl)))) (fun _ => wts_nil) (fun _ => (we_cb (war_cons (wr_v 1 (pv 1)) war_nil) sc_abs (fun t h => pe_callB call_abs (by rfl) T.abs (by decide +kernel) h)))) wa_nil)))))))) ?_
  rintro ds Q hl ⟨rfl, hq⟩
  walk_at "dw"
  refine ⟨rfl, small_line (by simp; omega), wLc_all D.int (fun i => D.int (if i < 0 then -i else i)) (ns.take 63) _ (fun x hx R h => ?_) ?_⟩
  · walk_at "dw"
    exact h
  · refine ⟨le_line (by decide), ?_⟩
    rw [show (ns.take 63).map (fun i => D.int (if i < 0 then -i else i)) = (absI ns).map D.int by unfold absI; rw [List.map_map]; rfl]
    exact hq

abbrev together_s : Stmt := topS 16
theorem together_sc : FnScope ["one", "other"] ["one", "other"] (defScope together_s) := ⟨rfl, rfl, rfl, by decide +kernel, rfl, by decide +kernel, by decide +kernel⟩
theorem together_ok {together_f : Addr} {together_fd : FuncData} (together_D : Dfn K mg "together" "together" together_s ["one", "other"] together_f together_fd) (T : Bltn mg) : FnOk P w K mg base CX0 1 together_f together_fd ["one", "other"] (spOf g 2 spTogether) := by
  refine def_ok together_D.F together_sc rfl (fun cdv A fr s H E hr =>
    (wss_one (ws_ret (we_cb (war_cons (we_sortedSet (we_bin op_addA s2_add (wr_v 0 (pv 0)) (wr_v 1 (pv 1))) rfl (by rfl) T.sorted (by rfl) T.set).rd war_nil) sc_tuple (fun t h => pe_callTy call_tuple_of (by rfl) T.tuple (by decide +kernel) h))))) ?_
  rintro ds Q hl ⟨xs, ys, rfl, hx, hq⟩
  refine ⟨le_line (by simp; omega), xs ++ ys, by simp, by simpa using hx, fun ms h1 h2 => ?_⟩
  exact hq ms h1 fun k => by rw [h2 k, List.mem_append]

abbrev apart_s : Stmt := topS 17
theorem apart_sc : FnScope ["one", "other", "person"] ["one", "other"] (defScope apart_s) := ⟨rfl, rfl, rfl, by decide +kernel, rfl, by decide +kernel, by decide +kernel⟩
theorem apart_ok {apart_f : Addr} {apart_fd : FuncData} (apart_D : Dfn K mg "apart" "apart" apart_s ["one", "other"] apart_f apart_fd) (T : Bltn mg) : FnOk P w K mg base CX0 1 apart_f apart_fd ["one", "other"] (spOf g 2 spApart) := by
  refine def_ok apart_D.F apart_sc rfl (fun cdv A fr s H E hr =>
    (wss_one (ws_ret (we_cb (war_cons (we_lc (own := [("person", 2)]) rfl apart_sc.nd (wi_seq (we_v 0 (pv 0))) (blkOk_by (N := ["one", "other", "person"]) (sc := defScope apart_s) (own := [("person", 2)]) (by decide +kernel)) (fun _ => (wg_name 2 (pg_name apart_sc.nd rfl (by first | exact Or.inl rfl | exact Or.inr rfl)))) (fun _ => (wts_one (wt_cmp op_notIn_seq s2_in (wr_v 2 (pv 2)) (wr_v 1 (pv 1)) (by rfl)))) (fun _ => (we_v 2 (pv 2)))).rd war_nil) sc_tuple (fun t h => pe_callTy call_tuple_of (by rfl) T.tuple (by decide +kernel) h))))) ?_
  rintro ds Q hl ⟨xs, ys, rfl, hx, hq⟩
  refine ⟨small_line (by simp; omega), wLc_map D.int (fun x => !ys.contains x) D.int xs _ (fun x _ R1 R0 h => ?_) hq⟩
  refine ⟨rfl, flat_ints ys, _, rfl, ?_⟩
  rw [in_ints]
  exact h

abbrev others_s : Stmt := topS 18
theorem others_sc : FnScope ["size", "group"] ["size", "group"] (defScope others_s) := ⟨rfl, rfl, rfl, by decide +kernel, rfl, by decide +kernel, by decide +kernel⟩
theorem others_ok {others_f : Addr} {others_fd : FuncData} (others_D : Dfn K mg "others" "others" others_s ["size", "group"] others_f others_fd) (T : Bltn mg)
    {apart_f : Addr} {apart_fd : FuncData} (apart_D : Dfn K mg "apart" "apart" apart_s ["one", "other"] apart_f apart_fd) (apart_G : FnOk P w K mg base CX0 1 apart_f apart_fd ["one", "other"] (spOf g 2 spApart)) : FnOk P w K mg base CX0 2 others_f others_fd ["size", "group"] (spOf g 2 spOthers) := by
  refine def_ok others_D.F others_sc rfl (fun cdv A fr s H E hr =>
    (wss_one (ws_ret (we_call (wa_cons (we_tupRg1 (we_v 0 (pv 0)) rfl (by rfl) T.tuple (by rfl) T.range) (wa_cons (we_v 1 (pv 1)) wa_nil)) (fun t h => pe_call apart_G (hr.mono (by decide)) (by rfl) apart_D.m apart_D.F.kp apart_D.b .nil pass0 h))))) ?_
  rintro ds Q hl ⟨n, r, rfl, h0, h7, hq⟩
  walk_at "dw"
  refine ⟨rgOk h0 (by omega), ?_⟩
  rw [rgD_rgI]
  exact ⟨rgI n, r, rfl, by rw [rgI_len]; omega, hq⟩

end
end K68
namespace DW
open PySem PySem.Spec PyProof.Rows L2

structure AllP (grp : List Int) (out : List (List Int)) : Prop where
  ord : out.Pairwise gLe
  nd : out.Nodup
  mem : ∀ P, P ∈ out ↔ P.Sublist grp
  len : out.length ≤ 128
structure AllG (n : Int) (out : List (List Int)) : Prop where
  ord : out.Pairwise gLe
  nd : out.Nodup
  mem : ∀ P, P ∈ out ↔ Gp n P
  len : out.length ≤ 128
def subs (grp : List Int) : List (List Int) := grp.foldl (fun f x => f ++ f.map (· ++ [x])) [[]]
/-- the least part of the greatest shortage -/
def IsShort (rows : List (List Int)) (grp T : List Int) : Prop := T.Sublist grp ∧ ∃ M, HL.Mx rows grp M ∧ HL.short rows T = M ∧ ∀ P, P.Sublist grp → HL.short rows P = M → ∀ x, x ∈ T → x ∈ P
def spInOrder (ds : List D) (Q : RQ) : Prop := ∃ rows : List (List Int), ds = [lT rows] ∧ ∀ out : List (List Int), out.Perm rows → out.Pairwise gLe → Q true (lT out)
def spParts (ds : List D) (Q : RQ) : Prop := ∃ grp : List Int, ds = [tI grp] ∧ grp.Nodup ∧ grp.length ≤ 7 ∧ ∀ out, AllP grp out → Q true (lT out)
def spShortage (C : Addr) (ds : List D) (Q : RQ) : Prop := ∃ n rows grp, ds = [jO C n rows, tI grp] ∧ good n rows ∧ grp.length ≤ 7 ∧ Q false (.int (HL.short rows grp))
def spShortPart (C : Addr) (ds : List D) (Q : RQ) : Prop := ∃ n rows grp, ds = [jO C n rows, tI grp] ∧ good n rows ∧ grp.Nodup ∧ grp.length ≤ 7 ∧ ∀ T, IsShort rows grp T → Q false (tI T)
def spStrength (C : Addr) (ds : List D) (Q : RQ) : Prop := ∃ n rows grp, ds = [jO C n rows, tI grp] ∧ good n rows ∧ grp.Nodup ∧ grp.length ≤ 7 ∧ ∀ M, HL.Mx rows grp M → Q false (.int ((grp.length : Int) - M))

theorem subs_snoc (l : List Int) (x : Int) : subs (l ++ [x]) = subs l ++ (subs l).map (· ++ [x]) := by
  unfold subs
  rw [List.foldl_append]; rfl
theorem rev_ind {α : Type} {P : List α → Prop} (h0 : P []) (h1 : ∀ l x, P l → P (l ++ [x])) (l : List α) : P l := by
  have key : ∀ m : List α, P m.reverse := by
    intro m
    induction m with
    | nil => exact h0
    | cons x m ih => rw [List.reverse_cons]; exact h1 _ _ ih
  have := key l.reverse
  rwa [List.reverse_reverse] at this
theorem mem_subs (l : List Int) : ∀ P, P ∈ subs l ↔ P.Sublist l := by
  refine rev_ind (P := fun l => ∀ P, P ∈ subs l ↔ P.Sublist l) ?_ ?_ l
  · intro P
    simp [subs]
  · intro l x ih P
    rw [subs_snoc, List.mem_append, ih, List.sublist_append_iff]
    constructor
    · rintro (h | h)
      · exact ⟨P, [], by simp, h, List.nil_sublist _⟩
      · obtain ⟨R, hR, rfl⟩ := List.mem_map.mp h
        exact ⟨R, [x], rfl, (ih R).mp hR, List.Sublist.refl _⟩
    · rintro ⟨a, b, rfl, h1, h2⟩
      rcases List.sublist_cons_iff.mp h2 with h2 | ⟨r, e, h2⟩
      · rw [List.sublist_nil] at h2
        subst h2
        exact .inl (by simpa using h1)
      · rw [List.sublist_nil] at h2
        subst h2 e
        exact .inr (List.mem_map.mpr ⟨a, (ih a).mpr h1, rfl⟩)
theorem len_subs (l : List Int) : (subs l).length = 2 ^ l.length := by
  refine rev_ind (P := fun l => (subs l).length = 2 ^ l.length) rfl (fun l x ih => ?_) l
  rw [subs_snoc, List.length_append, List.length_map, ih, List.length_append]
  show _ = 2 ^ (l.length + 1)
  rw [Nat.pow_succ]; omega
theorem nd_subs (l : List Int) : l.Nodup → (subs l).Nodup := by
  refine rev_ind (P := fun l => l.Nodup → (subs l).Nodup) (fun _ => by simp [subs]) (fun l x ih n => ?_) l
  rw [List.nodup_append] at n
  rw [subs_snoc, List.nodup_append]
  refine ⟨ih n.1, ?_, ?_⟩
  · refine List.Pairwise.map _ (fun a b h e => h ?_) (ih n.1)
    exact List.append_cancel_right e
  · intro a ha b hb e
    obtain ⟨c, hc, rfl⟩ := List.mem_map.mp hb
    subst e
    have := ((mem_subs l _).mp ha).subset (List.mem_append_right c (List.mem_singleton.mpr rfl))
    exact n.2.2 x this x (by simp) rfl
theorem len_subs7 {l : List Int} (h : l.length ≤ 7) : (subs l).length ≤ 128 := by
  rw [len_subs]
  exact Nat.pow_le_pow_right (by decide) h
theorem allP_of {grp : List Int} {out : List (List Int)} (n : grp.Nodup) (h7 : grp.length ≤ 7) (hp : out.Perm (subs grp)) (ho : out.Pairwise gLe) : AllP grp out :=
  ⟨ho, hp.nodup_iff.mpr (nd_subs grp n), fun P => by rw [hp.mem_iff, mem_subs], by rw [hp.length_eq]; exact len_subs7 h7⟩
theorem gp_nd {n : Int} {r : List Int} (h : Gp n r) : r.Nodup := h.1.imp fun h => Int.ne_of_lt h
theorem opn_len (rows : List (List Int)) (grp : List Int) : (opn rows grp).length = rows.countP (HL.meet grp) := by
  unfold opn
  rw [List.length_map, ← List.countP_eq_length_filter]
  have key : ∀ (rows : List (List Int)) (k : Nat), (rows.zipIdx k).countP (fun p => p.1.any fun x => grp.contains x) = rows.countP (HL.meet grp) := by
    intro rows
    induction rows with
    | nil => intro k; rfl
    | cons r rows ih =>
      intro k
      rw [List.zipIdx_cons, List.countP_cons, List.countP_cons, ih]
      have : (r.any fun x => grp.contains x) = HL.meet grp r := by
        rw [Bool.eq_iff_iff, HL.meet_iff, List.any_eq_true]
        constructor
        · rintro ⟨x, a, b⟩; exact ⟨x, by simpa using b, a⟩
        · rintro ⟨x, a, b⟩; exact ⟨x, b, by simpa using a⟩
      simp only [this]
  exact key rows 0
theorem add_tI {p q : List Int} {Q : RQ} (h : p.length + q.length ≤ 1000) (hq : Q false (tI (p ++ q))) : mAdd (tI p) (tI q) Q := by
  refine ⟨le_line (by simp; omega), ?_⟩
  unfold tI at hq
  rwa [List.map_append] at hq
theorem adds_lT {p q : List (List Int)} {Q : RQ} (h : p.length + q.length ≤ 1000) (hq : Q true (lT (p ++ q))) : mAdd (lT p) (lT q) Q := by
  refine ⟨le_line (by simp; omega), ?_⟩
  unfold lT at hq
  rwa [List.map_append] at hq
theorem len_tI {p : List Int} {Q : RQ} (h : Q false (.int (p.length : Int))) : mLen [tI p] Q := by
  show Q false (.int ((p.map D.int).length : Int))
  rw [List.length_map]; exact h
theorem int_at {xs : List Int} {i : Nat} {d : D} (h : (xs.map D.int)[i]? = some d) : ∃ x, xs[i]? = some x ∧ d = .int x := by
  rw [List.getElem?_map] at h
  cases q : xs[i]? with
  | none => rw [q] at h; cases h
  | some x => rw [q] at h; cases h; exact ⟨x, rfl, rfl⟩
theorem row_at {xs : List (List Int)} {i : Nat} {d : D} (h : (xs.map tI)[i]? = some d) : ∃ x, xs[i]? = some x ∧ d = tI x := by
  rw [List.getElem?_map] at h
  cases q : xs[i]? with
  | none => rw [q] at h; cases h
  | some x => rw [q] at h; cases h; exact ⟨x, rfl, rfl⟩
/-- what the walk over the parts holds: the first part of the greatest shortage so far -/
def Fm (sh : List Int → Int) (l : List (List Int)) (s : List Int) (m : Int) : Prop := (m = 0 ∧ s = [] ∧ ∀ P ∈ l, sh P ≤ 0) ∨ (0 < m ∧ ∃ l1 l2, l = l1 ++ s :: l2 ∧ sh s = m ∧ (∀ P ∈ l1, sh P < m) ∧ ∀ P ∈ l, sh P ≤ m)
theorem Fm.up {sh : List Int → Int} {l : List (List Int)} {s P : List Int} {m : Int} (h : Fm sh l s m) (g : m < sh P) : Fm sh (l ++ [P]) P (sh P) := by
  refine .inr ?_
  rcases h with ⟨rfl, rfl, h⟩ | ⟨h0, l1, l2, e, h1, h2, h3⟩
  · refine ⟨g, l, [], rfl, rfl, fun R hR => by have := h R hR; omega, fun R hR => ?_⟩
    rcases List.mem_append.mp hR with z | z
    · have := h R z; omega
    · rw [List.mem_singleton.mp z]; exact Int.le_refl _
  · refine ⟨by omega, l, [], rfl, rfl, fun R hR => by have := h3 R hR; omega, fun R hR => ?_⟩
    rcases List.mem_append.mp hR with z | z
    · have := h3 R z; omega
    · rw [List.mem_singleton.mp z]; exact Int.le_refl _
theorem Fm.stay {sh : List Int → Int} {l : List (List Int)} {s P : List Int} {m : Int} (h : Fm sh l s m) (g : ¬ m < sh P) : Fm sh (l ++ [P]) s m := by
  rcases h with ⟨rfl, rfl, h⟩ | ⟨h0, l1, l2, e, h1, h2, h3⟩
  · refine .inl ⟨rfl, rfl, fun R hR => ?_⟩
    rcases List.mem_append.mp hR with z | z
    · exact h R z
    · rw [List.mem_singleton.mp z]; omega
  · refine .inr ⟨h0, l1, l2 ++ [P], by rw [e]; simp, h1, h2, fun R hR => ?_⟩
    rcases List.mem_append.mp hR with z | z
    · exact h3 R z
    · rw [List.mem_singleton.mp z]; omega
theorem sub_of {grp T s : List Int} (n : grp.Nodup) (hT : T.Sublist grp) (hs : s.Sublist grp) (h : ∀ x ∈ T, x ∈ s) : T.Sublist s := by
  have e : T = s.filter fun x => T.contains x := by
    have e1 := HL.sub_filter hT n
    have e2 := HL.sub_filter hs n
    have : (grp.filter fun x => T.contains x) = (grp.filter fun x => s.contains x).filter fun x => T.contains x := by
      rw [List.filter_filter]
      refine List.filter_congr fun x _ => ?_
      cases z : T.contains x with
      | false => simp
      | true =>
        have := h x (by simpa using z)
        simp [this]
    rw [← e1, ← e2] at this
    exact this
  rw [e]
  exact List.filter_sublist
theorem fm_short {rows : List (List Int)} {grp s : List Int} {m : Int} {out : List (List Int)} (n : grp.Nodup) (ha : AllP grp out) (h : Fm (HL.short rows) out s m) : IsShort rows grp s := by
  obtain ⟨M, hM⟩ := HL.mx_ex rows grp
  obtain ⟨T, t1, t2, t3⟩ := hM.least n
  rcases h with ⟨rfl, rfl, h⟩ | ⟨h0, l1, l2, e, h1, h2, h3⟩
  · have : M = 0 := by
      have a := h T ((ha.mem T).mpr t1)
      have b := hM.nonneg
      omega
    subst this
    exact ⟨List.nil_sublist _, 0, hM, HL.short_nil _, fun P _ _ x hx => by cases hx⟩
  · have hs : s.Sublist grp := (ha.mem s).mp (by rw [e]; simp)
    have hTo := (ha.mem T).mpr t1
    have eM : M = m := by
      have a := h3 T hTo
      have b := hM.le s hs
      omega
    have es : T = s := by
      rw [e] at hTo
      rcases List.mem_append.mp hTo with z | z
      · have := h2 T z; omega
      · rcases List.mem_cons.mp z with z | z
        · exact z
        · have o := ha.ord
          rw [e, List.pairwise_append] at o
          have := (List.pairwise_cons.mp o.2.1).1 T z
          have sub := sub_of n t1 hs (t3 s hs (by omega))
          refine sub.eq_of_length_le ?_
          rcases this with q | ⟨q, _⟩ <;> omega
    subst es
    exact ⟨t1, M, hM, t2, t3⟩
end DW
namespace K68
open PySem PySem.Spec PyProof.Rows L2 DW
local macro_rules | `(tactic| walk_at "dw") => `(tactic| simp only [rdS_0, rdS_s, rdO_0, rdO_1, rdO_s, startS, endD, mAdd_i, mAdd_b, mAdd_l, mAdd_t, mI_i, mIC_i, mB_i, mLen_l, mLen_t, mList_l, mList_t, mTuple_l, mTuple_t, mInt1_i, mInt1_b, mAbs_i, mIx_l, mIx_t, mSl_l, mSl_t, mSeq_l, mSeq_t, mEnum_l, mEnum_t, mFld_o, mExt_l, mRev_l, mRepr_1, put_f, put_t, frz_0, frz_1, frz_2, frz_s, wpS_0, wpS_1, DW.putAll,
  List.map_cons, List.map_nil, List.cons_append, List.nil_append, List.length_cons, List.length_nil, List.replicate_succ, List.replicate_zero, List.set_cons_zero, List.set_cons_succ, List.set_nil, Nat.reduceAdd, Nat.reduceSub, Nat.zero_add, Bool.not_true, Bool.not_false, if_true, if_false, Bool.false_eq_true, and_true, true_and, decide_eq_true_eq, eq_self, Bool.and_eq_true, Bool.or_eq_true, Bool.not_eq_true, D.bl.injEq, D.int.injEq, D.lst.injEq, D.tup.injEq, exists_eq_left', exists_eq_left, exists_eq_right])
section
variable {g : Gd} {P : Program} {w : World} {K : PySem.W.Frag} {mg : Str → Option Value} {base : Heap} {CJ CFm b c sa : Addr} {cs ns : List Int} {tr : Prop}
abbrev in_order_s : Stmt := topS 13
theorem in_order_sc : FnScope ["rows"] ["rows"] (defScope in_order_s) := ⟨rfl, rfl, rfl, by decide +kernel, rfl, by decide +kernel, by decide +kernel⟩
theorem in_order_ok {in_order_f : Addr} {in_order_fd : FuncData} (in_order_D : Dfn K mg "in_order" "in_order" in_order_s ["rows"] in_order_f in_order_fd) (T : Bltn mg) : FnOk P w K mg base CX0 1 in_order_f in_order_fd ["rows"] (spOf g 1 spInOrder) := by
  refine def_ok in_order_D.F in_order_sc rfl (fun cdv A fr s H E hr =>
    (wss_one (ws_ret (we_sortLen (we_cb (war_cons (wr_v 0 (pv 0)) war_nil) sc_sortT (fun t h => pe_callB (cr_sortTI hr.units) (by rfl) T.sorted (by decide +kernel) h)).rd (by rfl) T.sorted (by rfl) T.len hr.units)))) ?_
  rintro ds Q hl ⟨rows, rfl, hq⟩
  walk_at "dw"
  exact ⟨rows, rfl, fun out hp ho => ⟨out, rfl, hq _ ((byLen_ord ho).2.trans hp) (byLen_ord ho).1⟩⟩

abbrev parts_s : Stmt := topS 15
theorem parts_sc : FnScope ["group", "found", "person", "part"] ["group"] (defScope parts_s) := ⟨rfl, rfl, rfl, by decide +kernel, rfl, by decide +kernel, by decide +kernel⟩
theorem parts_ok {parts_f : Addr} {parts_fd : FuncData} (parts_D : Dfn K mg "parts" "parts" parts_s ["group"] parts_f parts_fd) (T : Bltn mg)
    {in_order_f : Addr} {in_order_fd : FuncData} (in_order_D : Dfn K mg "in_order" "in_order" in_order_s ["rows"] in_order_f in_order_fd) (in_order_G : FnOk P w K mg base CX0 1 in_order_f in_order_fd ["rows"] (spOf g 1 spInOrder)) : FnOk P w K mg base CX0 2 parts_f parts_fd ["group"] (spOf g 1 spParts) := by
  refine def_ok parts_D.F parts_sc rfl (fun cdv A fr s H E hr =>
    (wss_cons (ws_set 1 (we_lst (wa_cons (we_tup wa_nil) wa_nil)) (fun te h => ps_set (i := 1) parts_sc.nd rfl (by first | exact Or.inl rfl | exact Or.inr rfl) h))
    (wss_cons (ws_for rfl (wi_seq (we_v 0 (pv 0))) (wg_name 2 (pg_name parts_sc.nd rfl (by first | exact Or.inl rfl | exact Or.inr rfl)))
    (wss_one (ws_set 1 (we_bin op_addA s2_add (wr_v 1 (pv 1)) (we_lc (own := [("part", 3)]) rfl parts_sc.nd (wi_seq (we_v 1 (pv 1))) (blkOk_by (N := ["group", "found", "person", "part"]) (sc := defScope parts_s) (own := [("part", 3)]) (by decide +kernel)) (fun _ => (wg_name 3 (pg_name parts_sc.nd rfl (by first | exact Or.inl rfl | exact Or.inr rfl)))) (fun _ => wts_nil) (fun _ => (we_bin op_addA s2_add (wr_v 3 (pv 3)) (we_tup (wa_cons (we_v 2 (pv 2)) wa_nil)).rd))).rd) (fun te h => ps_set (i := 1) parts_sc.nd rfl (by first | exact Or.inl rfl | exact Or.inr rfl) h))))
    (wss_one (ws_ret (we_call (wa_cons (we_v 1 (pv 1)) wa_nil) (fun t h => pe_call in_order_G (hr.mono (by decide)) (by rfl) in_order_D.m in_order_D.F.kp in_order_D.b .nil pass0 h))))))) ?_
  rintro ds Q hl ⟨grp, rfl, hnd, h7, hq⟩
  walk_at "dw"
  refine ⟨Nat.zero_le _, le_line (by decide), ?_⟩
  show wFor _ _ _ (grp.map D.int) _
  refine wFor_inv (fun i st => ∃ s2 s3, st = [.val (tI grp), .val (lT (subs (grp.take i))), s2, s3]) (fun _ _ _ => trivial) _ 0 _ ⟨_, _, rfl⟩ ?_ ?_
  · rintro i d hi st ⟨s2, s3, rfl⟩ K hK
    rw [Nat.zero_add] at hK ⊢
    obtain ⟨x, hx, rfl⟩ := int_at hi
    have hs : (subs (grp.take i)).length ≤ 128 := len_subs7 (by rw [List.length_take]; omega)
    walk_at "dw"
    show ((subs (grp.take i)).map tI).length < sizeLine ∧ wLc _ _ _ _ ((subs (grp.take i)).map tI) _
    refine ⟨small_line (by simp; omega), wLc_all tI (fun p => tI (p ++ [x])) (subs (grp.take i)) _ (fun p hp R h => ?_) ?_⟩
    · walk_at "dw"
      have := ((mem_subs _ p).mp hp).length_le
      rw [List.length_take] at this
      exact ⟨le_line (by decide), add_tI (q := [x]) (by simp; omega) h⟩
    · have e : (subs (grp.take i)).map (fun p => tI (p ++ [x])) = ((subs (grp.take i)).map (· ++ [x])).map tI := by rw [List.map_map]; rfl
      rw [e]
      refine adds_lT (by simp; omega) ?_
      rw [← subs_snoc, ← take_one hx]
      exact hK _ ⟨_, _, rfl⟩
  · rintro st ⟨s2, s3, rfl⟩
    rw [List.length_map, Nat.zero_add, List.take_length]
    exact ⟨_, rfl, fun out hp ho => hq out (allP_of hnd h7 hp ho)⟩

end
end K68
namespace DW
open PySem PySem.Spec PyProof.Rows L2

def spLGroups (ds : List D) (Q : RQ) : Prop := ∃ n : Int, ds = [.int n] ∧ 0 ≤ n ∧ n ≤ 7 ∧ ∀ out, AllG n out → Q true (lT out)
def keyI (g : List Int) : List L2.Key := g.map Sum.inl
def canT (rs : List (List Int)) (out : List (List Int)) : D := .dT (out.map fun g => (keyI g, .bl (HL.can rs g)))
def rankT (ρ : List Int → Int) (out : List (List Int)) : D := .dT (out.map fun g => (keyI g, .int (ρ g)))
def spLCan (ds : List D) (Q : RQ) : Prop := ∃ n rows, (ds = [.int n, lT rows] ∨ ds = [.int n, tT rows]) ∧ good n rows ∧ ∀ out, AllG n out → Q false (canT rows.reverse out)
def spLRanks (ds : List D) (Q : RQ) : Prop := ∃ n rs out, ∃ ρ : List Int → Int, ds = [.int n, canT rs out] ∧ 0 ≤ n ∧ n ≤ 7 ∧ AllG n out ∧ (∀ g, Gp n g → HL.Mx rs g ((g.length : Int) - ρ g)) ∧ Q false (rankT ρ out)

/-! ### the law's own list of groups -/
def okNext (one : List Int) (p : Int) : Bool := match one.getLast? with | none => true | some l => decide (l < p)
def nxt (n : Int) (one : List Int) : List (List Int) := ((rgI n).filter (okNext one)).map fun p => one ++ [p]
def lev (n : Int) : Nat → List (List Int)
  | 0 => [[]]
  | k + 1 => (lev n k).flatMap (nxt n)
theorem last_or {a : List Int} : a = [] ∨ ∃ b x, a = b ++ [x] := by
  refine rev_ind (P := fun a => a = [] ∨ ∃ b x, a = b ++ [x]) (.inl rfl) (fun l x _ => .inr ⟨l, x, rfl⟩) a
theorem gp_snoc {n : Int} {a : List Int} {p : Int} : Gp n (a ++ [p]) ↔ Gp n a ∧ okNext a p = true ∧ 0 ≤ p ∧ p < n := by
  unfold okNext
  constructor
  · rintro ⟨h1, h2⟩
    rw [List.pairwise_append] at h1
    refine ⟨⟨h1.1, fun x hx => h2 x (List.mem_append_left _ hx)⟩, ?_, h2 p (by simp)⟩
    cases e : a.getLast? with
    | none => rfl
    | some l =>
      have hl := List.mem_of_getLast? e
      exact decide_eq_true (h1.2.2 l hl p (by simp))
  · rintro ⟨⟨h1, h2⟩, h3, h4⟩
    refine ⟨?_, fun x hx => ?_⟩
    · rw [List.pairwise_append]
      refine ⟨h1, by simp, fun x hx y hy => ?_⟩
      rw [List.mem_singleton.mp hy]
      rcases last_or (a := a) with rfl | ⟨b, l, rfl⟩
      · cases hx
      · rw [List.getLast?_append] at h3
        simp at h3
        rcases List.mem_append.mp hx with z | z
        · rw [List.pairwise_append] at h1
          have := h1.2.2 x z l (by simp)
          omega
        · rw [List.mem_singleton.mp z]; exact h3
    · rcases List.mem_append.mp hx with z | z
      · exact h2 x z
      · rw [List.mem_singleton.mp z]; exact h4
theorem mem_lev (n : Int) : ∀ (k : Nat) (g : List Int), g ∈ lev n k ↔ Gp n g ∧ g.length = k
  | 0, g => by
    simp only [lev, List.mem_singleton]
    constructor
    · rintro rfl; exact ⟨⟨by simp, by simp⟩, rfl⟩
    · rintro ⟨_, h⟩; exact List.length_eq_zero_iff.mp h
  | k + 1, g => by
    simp only [lev, List.mem_flatMap, nxt, List.mem_map, List.mem_filter, mem_rgI]
    constructor
    · rintro ⟨a, ha, p, ⟨hp1, hp2⟩, rfl⟩
      have := (mem_lev n k a).mp ha
      exact ⟨gp_snoc.mpr ⟨this.1, hp2, hp1⟩, by rw [List.length_append, this.2]; rfl⟩
    · rintro ⟨h1, h2⟩
      rcases last_or (a := g) with rfl | ⟨b, l, rfl⟩
      · simp at h2
      · obtain ⟨g1, g2, g3⟩ := gp_snoc.mp h1
        rw [List.length_append] at h2
        exact ⟨b, (mem_lev n k b).mpr ⟨g1, by simpa using h2⟩, l, ⟨g3, g2⟩, rfl⟩
theorem lex_app : ∀ {a b : List Int} {p q : List Int}, a.length = b.length → HT.lexLt a b = true → HT.lexLt (a ++ p) (b ++ q) = true
  | [], [], _, _, _, h => by rw [HT.lexLt_nil_nil] at h; cases h
  | [], _ :: _, _, _, l, _ => by simp at l
  | _ :: _, [], _, _, l, _ => by simp at l
  | x :: a, y :: b, p, q, l, h => by
    rw [HT.lexLt_cons] at h
    rw [List.cons_append, List.cons_append, HT.lexLt_cons]
    by_cases e : x = y
    · rw [if_pos e] at h ⊢
      exact lex_app (by simpa using l) h
    · rw [if_neg e] at h ⊢
      exact h
theorem lex_snoc {p q : Int} (h : p < q) : ∀ a : List Int, HT.lexLt (a ++ [p]) (a ++ [q]) = true
  | [] => by
    show HT.lexLt (p :: []) (q :: []) = true
    rw [HT.lexLt_cons, if_neg (by omega)]
    exact decide_eq_true h
  | x :: a => by
    rw [List.cons_append, List.cons_append, HT.lexLt_cons, if_pos rfl]
    exact lex_snoc h a
theorem lev_ord (n : Int) : ∀ k : Nat, (lev n k).Pairwise fun a b => HT.lexLt a b = true
  | 0 => by simp [lev]
  | k + 1 => by
    rw [lev, List.pairwise_flatMap]
    refine ⟨fun a ha => ?_, ?_⟩
    · unfold nxt
      rw [List.pairwise_map]
      exact ((rgI_lt n).sublist List.filter_sublist).imp fun h => lex_snoc h a
    · refine (lev_ord n k).imp_of_mem fun {a b} ha hb h x hx y hy => ?_
      obtain ⟨p, _, rfl⟩ := List.mem_map.mp hx
      obtain ⟨q, _, rfl⟩ := List.mem_map.mp hy
      exact lex_app (((mem_lev n k a).mp ha).2.trans ((mem_lev n k b).mp hb).2.symm) h
def acc (n : Int) (k : Nat) : List (List Int) := (List.range k).flatMap (lev n)
theorem acc_succ (n : Int) (k : Nat) : acc n (k + 1) = acc n k ++ lev n k := by
  unfold acc
  rw [List.range_succ, List.flatMap_append]; simp
theorem gp_sub {n : Int} {g : List Int} (h : Gp n g) : g.Sublist (rgI n) := by
  have : g = (rgI n).filter fun x => g.contains x := by
    refine rise_uniq h.1 ((rgI_lt n).sublist List.filter_sublist) fun k => ?_
    rw [List.mem_filter, mem_rgI]
    constructor
    · intro hk; exact ⟨h.2 k hk, by simpa using hk⟩
    · rintro ⟨_, hk⟩; simpa using hk
  rw [this]; exact List.filter_sublist
theorem lex_irr : ∀ a : List Int, HT.lexLt a a = false
  | [] => HT.lexLt_nil_nil
  | x :: a => by rw [HT.lexLt_cons, if_pos rfl]; exact lex_irr a
theorem acc_strict (n : Int) (k : Nat) : (acc n k).Pairwise fun a b => a.length < b.length ∨ (a.length = b.length ∧ HT.lexLt a b = true) := by
  unfold acc
  rw [List.pairwise_flatMap]
  refine ⟨fun i _ => ?_, ?_⟩
  · refine (lev_ord n i).imp_of_mem fun {a b} ha hb h => .inr ⟨?_, h⟩
    rw [((mem_lev n i a).mp ha).2, ((mem_lev n i b).mp hb).2]
  · refine (List.pairwise_lt_range (n := k)).imp fun {i j} h x hx y hy => .inl ?_
    rw [((mem_lev n i x).mp hx).2, ((mem_lev n j y).mp hy).2]; exact h
theorem mem_acc {n : Int} {k : Nat} {g : List Int} : g ∈ acc n k ↔ Gp n g ∧ g.length < k := by
  unfold acc
  simp only [List.mem_flatMap, List.mem_range, mem_lev]
  constructor
  · rintro ⟨i, h, h1, rfl⟩; exact ⟨h1, h⟩
  · rintro ⟨h1, h2⟩; exact ⟨_, h2, h1, rfl⟩
theorem acc_nd (n : Int) (k : Nat) : (acc n k).Nodup := by
  refine (acc_strict n k).imp fun {a b} h e => ?_
  subst e
  rcases h with h | ⟨_, h⟩
  · omega
  · rw [lex_irr] at h; cases h
theorem acc_len {n : Int} (k : Nat) (h7 : n ≤ 7) : (acc n k).length ≤ 128 := by
  have h1 : (acc n k).length ≤ (subs (rgI n)).length := (acc_nd n k).length_le_of_subset fun g hg => by
    rw [mem_subs]; exact gp_sub (mem_acc.mp hg).1
  have := len_subs7 (l := rgI n) (by rw [rgI_len]; omega)
  omega
theorem allG_acc {n : Int} (h0 : 0 ≤ n) (h7 : n ≤ 7) : AllG n (acc n (n.toNat + 1)) := by
  refine ⟨(acc_strict n _).imp fun {a b} h => ?_, acc_nd n _, fun P => ?_, acc_len _ h7⟩
  · rcases h with h | ⟨h1, h2⟩
    · exact .inl h
    · exact .inr ⟨h1, NtL.lex_asym _ _ h2⟩
  · rw [mem_acc]
    refine ⟨fun h => h.1, fun h => ⟨h, ?_⟩⟩
    have := (gp_sub h).length_le
    rw [rgI_len] at this; omega
theorem eqv_tI (r s : List Int) : PyData.eqv (tI r).py (tI s).py = decide (r = s) := by
  rw [show PyData.eqv (tI r).py (tI s).py = PyData.eqvAll (D.pyAll (r.map D.int)) (D.pyAll (s.map D.int)) by simp only [tI, D.py, PyData.eqv], eqv_ints]
theorem eq_tI {n : Int} {r s : List Int} {Q : RQ} (h1 : Gp n r) (h2 : Gp n s) (h7 : n ≤ 7) (q : Q false (.bl (decide (r = s)))) : mEqF (tI r) (tI s) Q := eq_data (sh_tI h1 h7).shw (sh_tI h2 h7).shw (by rw [eqv_tI]; exact q)
theorem ix_last {b : List Int} {l : Int} {Q : RQ} (q : Q false (.int l)) : mIx (tI (b ++ [l])) (.int (-1)) Q := by
  refine ⟨.int l, ?_, q⟩
  unfold atI ixN
  rw [List.length_map, List.length_append, List.length_singleton]
  rw [if_neg (by omega), if_pos (by omega)]
  show ((b ++ [l]).map D.int)[(-1 + ((b.length + 1 : Nat) : Int)).toNat]? = _
  rw [show (-1 + ((b.length + 1 : Nat) : Int)).toNat = b.length by omega]
  simp
theorem range_at {m : Nat} {lo : Int} {i : Nat} {d : D} (h : ((List.range m).map fun (k : Nat) => D.int (lo + (k : Int)))[i]? = some d) : d = .int (lo + (i : Int)) ∧ i < m := by
  rw [List.getElem?_map] at h
  cases q : (List.range m)[i]? with
  | none => rw [q] at h; cases h
  | some x =>
    rw [q] at h
    obtain ⟨a, b⟩ := List.getElem?_eq_some_iff.mp q
    rw [List.length_range] at a
    rw [List.getElem_range] at b
    subst b
    cases h
    exact ⟨rfl, a⟩

theorem keyI_inj {a b : List Int} (h : keyI a = keyI b) : a = b := by
  have : ∀ {a b : List Int}, keyI a = keyI b → a = b := by
    intro a
    induction a with
    | nil => intro b h; cases b with
      | nil => rfl
      | cons y b => simp [keyI] at h
    | cons x a ih => intro b h; cases b with
      | nil => simp [keyI] at h
      | cons y b =>
        simp only [keyI, List.map_cons] at h
        injection h with h1 h2
        injection h1 with h1
        rw [h1, ih h2]
  exact this h
theorem keyD_I (g : List Int) : tI g = keyD (keyI g) := by
  unfold tI keyD keyI
  rw [List.map_map]; rfl
theorem valT {f : List Int → D} {g : List Int} : ∀ {l : List (List Int)}, g ∈ l → valD (l.map fun g => (keyI g, f g)) (keyI g) = some (f g)
  | x :: l, h => by
    unfold valD
    rw [List.map_cons, List.find?_cons]
    by_cases e : keyI x = keyI g
    · have := keyI_inj e
      subst this
      simp
    · simp only [e, decide_false]
      rcases List.mem_cons.mp h with z | z
      · subst z; exact absurd rfl e
      · exact valT z
theorem putT {f : List Int → D} {g : List Int} {l : List (List Int)} (h : g ∉ l) : putD (l.map fun g => (keyI g, f g)) (keyI g) (f g) = (l ++ [g]).map fun g => (keyI g, f g) := by
  unfold putD
  have : ((l.map fun g => (keyI g, f g)).any fun kv => decide (kv.1 = keyI g)) = false := by
    rw [List.any_eq_false]
    intro p hp
    obtain ⟨x, hx, rfl⟩ := List.mem_map.mp hp
    simp only [decide_eq_true_eq]
    exact fun e => h (keyI_inj e ▸ hx)
  rw [this]
  simp
theorem dget_T {f : List Int → D} {g : List Int} {l : List (List Int)} {Q : RQ} (h : g ∈ l) (q : Q false (f g)) : mDGet (.dT (l.map fun g => (keyI g, f g))) (tI g) Q := .inl ⟨_, keyI g, _, rfl, keyD_I g, valT h, q⟩
theorem nd_take {l : List (List Int)} {i : Nat} {x : List Int} (n : l.Nodup) (h : l[i]? = some x) : x ∉ l.take i := fun z => by
  obtain ⟨j, hj, e⟩ := List.mem_take_iff_getElem.mp z
  obtain ⟨hi, e2⟩ := List.getElem?_eq_some_iff.mp h
  have := (List.getElem_inj n).mp (e.trans e2.symm)
  omega
theorem before {l : List (List Int)} {i : Nat} {x y : List Int} (o : l.Pairwise gLe) (h : l[i]? = some x) (hy : y ∈ l) (hl : y.length < x.length) : y ∈ l.take i := by
  obtain ⟨j, hj, rfl⟩ := List.getElem_of_mem hy
  obtain ⟨hi, rfl⟩ := List.getElem?_eq_some_iff.mp h
  by_cases c : j < i
  · exact List.mem_take_iff_getElem.mpr ⟨j, by omega, rfl⟩
  · by_cases e : j = i
    · subst e; omega
    · have := List.pairwise_iff_getElem.mp o i j hi hj (by omega)
      rcases this with q | ⟨q, _⟩ <;> omega
theorem allG_uniq {n : Int} {a b : List (List Int)} (h1 : AllG n a) (h2 : AllG n b) : a = b := ord_uniq h1.ord h2.ord ((List.perm_ext_iff_of_nodup h1.nd h2.nd).mpr fun g => by rw [h1.mem, h2.mem])
theorem gp_erase {n : Int} {g : List Int} (h : Gp n g) (k : Nat) : Gp n (g.eraseIdx k) := h.sub (List.eraseIdx_sublist _ _)
theorem getD_at {g : List Int} {k : Nat} (h : k < g.length) : g[k]? = some (g.getD k 0) := by
  rw [List.getElem?_eq_getElem h]; simp [h]
theorem ix_tI {g : List Int} {k : Nat} {Q : RQ} (h : k < g.length) (q : Q false (.int (g.getD k 0))) : mIx (tI g) (.int (k : Int)) Q := ⟨_, atI_nat (by rw [List.getElem?_map, getD_at h]; rfl), q⟩
/-- g[:k] + g[k+1:] -/
theorem cuts_tI {g : List Int} {k : Nat} {Q : RQ} (h7 : g.length ≤ 100) (q : Q false (tI (g.eraseIdx k))) : mSl (tI g) none (some (k : Int)) fun _ x => mSl (tI g) (some ((k : Int) + 1)) none fun _ y => mAdd x y Q := by
  show mAdd (.tup (cutD (g.map D.int) none (some (k : Int)))) (.tup (cutD (g.map D.int) (some ((k : Int) + 1)) none)) Q
  rw [cut_to, cut_from, ← List.map_take, ← List.map_drop]
  refine add_tI (p := g.take k) (q := g.drop (k + 1)) (by simp; omega) ?_
  rw [← List.eraseIdx_eq_take_drop_succ]; exact q
theorem can_nil (g : List Int) : decide (g = []) = HL.can [] g := by
  cases g <;> simp [HL.can]
end DW
namespace K68
open PySem PySem.Spec PyProof.Rows L2 DW
local macro_rules | `(tactic| walk_at "dw") => `(tactic| simp only [rdS_0, rdS_s, rdO_0, rdO_1, rdO_s, startS, endD, mAdd_i, mAdd_b, mAdd_l, mAdd_t, mI_i, mIC_i, mB_i, mLen_l, mLen_t, mList_l, mList_t, mTuple_l, mTuple_t, mInt1_i, mInt1_b, mAbs_i, mIx_l, mIx_t, mSl_l, mSl_t, mSeq_l, mSeq_t, mEnum_l, mEnum_t, mFld_o, mExt_l, mRev_l, mRepr_1, put_f, put_t, frz_0, frz_1, frz_2, frz_s, wpS_0, wpS_1, DW.putAll,
  List.map_cons, List.map_nil, List.cons_append, List.nil_append, List.length_cons, List.length_nil, List.replicate_succ, List.replicate_zero, List.set_cons_zero, List.set_cons_succ, List.set_nil, Nat.reduceAdd, Nat.reduceSub, Nat.zero_add, Bool.not_true, Bool.not_false, if_true, if_false, Bool.false_eq_true, and_true, true_and, decide_eq_true_eq, eq_self, Bool.and_eq_true, Bool.or_eq_true, Bool.not_eq_true, D.bl.injEq, D.int.injEq, D.lst.injEq, D.tup.injEq, exists_eq_left', exists_eq_left, exists_eq_right])
section
variable {g : Gd} {P : Program} {w : World} {K : PySem.W.Frag} {mg : Str → Option Value} {base : Heap} {CJ CFm b c sa : Addr} {cs ns : List Int} {tr : Prop}
abbrev l_groups_s : Stmt := topS 47
theorem l_groups_sc : FnScope ["_law_size", "_law_found", "_law_start", "_law_k", "_law_end", "_law_at", "_law_one_here", "_law_p"] ["_law_size"] (defScope l_groups_s) := ⟨rfl, rfl, rfl, by decide +kernel, rfl, by decide +kernel, by decide +kernel⟩
theorem l_groups_ok {l_groups_f : Addr} {l_groups_fd : FuncData} (l_groups_D : Dfn K mg "_law_groups" "_law_groups" l_groups_s ["_law_size"] l_groups_f l_groups_fd) (T : Bltn mg) : FnOk P w K mg base CX0 1 l_groups_f l_groups_fd ["_law_size"] (spOf g 1 spLGroups) := by
  refine def_ok l_groups_D.F l_groups_sc rfl (fun cdv A fr s H E hr =>
    (wss_cons (ws_par true false 1 2 (by decide) (we_lst (wa_cons (we_tup wa_nil) wa_nil)) we_int (fun t1 t2 h1 h2 => ps_par rfl l_groups_sc.nd rfl rfl (by decide) rfl rfl (pa_cons h1 (pa_cons h2 pa_nil)) (by rfl)))
    (wss_cons (ws_for rfl (wi_rg1 (we_v 0 (pv 0)) (by rfl) T.range) (wg_name 3 (pg_name l_groups_sc.nd rfl (by first | exact Or.inl rfl | exact Or.inr rfl)))
    (wss_cons (ws_set 4 (we_cb (war_cons (wr_v 1 (pv 1)) war_nil) sc_len (fun t h => pe_callB call_len_seq (by rfl) T.len (by decide +kernel) h)) (fun te h => ps_set (i := 4) l_groups_sc.nd rfl (by first | exact Or.inl rfl | exact Or.inr rfl) h))
    (wss_cons (ws_for rfl (wi_rg2 (we_v 2 (pv 2)) (we_v 4 (pv 4)) (by rfl) T.range) (wg_name 5 (pg_name l_groups_sc.nd rfl (by first | exact Or.inl rfl | exact Or.inr rfl)))
    (wss_cons (ws_set 6 (we_ix ix_seq s2_ix (wr_v 1 (pv 1)) (wr_v 5 (pv 5))) (fun te h => ps_set (i := 6) l_groups_sc.nd rfl (by first | exact Or.inl rfl | exact Or.inr rfl) h))
    (wss_one (ws_mut 1 sm_extend (war_cons (we_lc (own := [("_law_p", 7)]) rfl l_groups_sc.nd (wi_rg1 (we_v 0 (pv 0)) (by rfl) T.range) (blkOk_by (N := ["_law_size", "_law_found", "_law_start", "_law_k", "_law_end", "_law_at", "_law_one_here", "_law_p"]) (sc := defScope l_groups_s) (own := [("_law_p", 7)]) (by decide +kernel)) (fun _ => (wg_name 7 (pg_name l_groups_sc.nd rfl (by first | exact Or.inl rfl | exact Or.inr rfl)))) (fun _ => (wts_one (ww_t (ww_or (wt_cmp (op_eqF hr.units) s2_eqF (wr_v 6 (pv 6)) (we_tup wa_nil).rd (nomark _)) (ww_or1 (wt_cmp op_gt s2_B (wr_v 7 (pv 7)) (we_ix ix_seq s2_ix (wr_v 6 (pv 6)) (we_neg we_int).rd).rd (nomark _))))))) (fun _ => (we_bin op_addA s2_add (wr_v 6 (pv 6)) (we_tup (wa_cons (we_v 7 (pv 7)) wa_nil)).rd))).rd war_nil) (fun t h => ps_expr (pe_bm PySem.F.plainAttrs_list PySem.F.slot_list_extend PySem.F.type_list_extend mt_extend (pv 1) h))))))
    (wss_one (ws_set 2 (we_v 4 (pv 4)) (fun te h => ps_set (i := 2) l_groups_sc.nd rfl (by first | exact Or.inl rfl | exact Or.inr rfl) h))))))
    (wss_one (ws_retO 1 (pv 1)))))) ?_
  rintro ds Q hl ⟨n, rfl, h0, h7, hq⟩
  walk_at "dw"
  refine ⟨Nat.zero_le _, le_line (by decide), rg62_nat h0 (by omega), ?_⟩
  refine wFor_inv (fun k st => ∃ s3 s4 s5 s6 s7, st = [.val (.int n), .own ((acc n (k + 1)).map tI), .val (.int ((acc n k).length : Int)), s3, s4, s5, s6, s7]) (fun _ _ _ => trivial) _ 0 _ ⟨_, _, _, _, _, rfl⟩ ?_ ?_
  · rintro k d hk st ⟨s3, s4, s5, s6, s7, rfl⟩ K hK
    rw [Nat.zero_add] at hK ⊢
    obtain ⟨rfl, hkn⟩ := range_at hk
    have l1 := acc_len (n := n) (k + 1) h7
    have l2 := acc_len (n := n) (k + 2) h7
    have l0 := acc_len (n := n) k h7
    have ej : (((((acc n (k + 1)).map tI).length : Nat) : Int) - (((acc n k).length : Nat) : Int)).toNat = (lev n k).length := by
      rw [List.length_map, acc_succ, List.length_append]; omega
    walk_at "dw"
    refine ⟨_, _, rfl, rfl, rg62_nat (by omega) (by omega), rg62_nat (by omega) (by simp; omega), ?_⟩
    rw [ej]
    refine wFor_inv (fun i st => ∃ s5 s6 s7, st = [.val (.int n), .own ((acc n (k + 1) ++ ((lev n k).take i).flatMap (nxt n)).map tI), .val (.int ((acc n k).length : Int)), .val (.int (0 + (k : Int))), .val (.int ((((acc n (k + 1)).map tI).length : Nat) : Int)), s5, s6, s7]) (fun _ _ _ => trivial) _ 0 _ ⟨_, _, _, by simp; exact ⟨rfl, rfl, rfl⟩⟩ ?_ ?_
    · rintro i d hi st ⟨s5, s6, s7, rfl⟩ K2 hK2
      rw [Nat.zero_add] at hK2 ⊢
      obtain ⟨rfl, hil⟩ := range_at hi
      have hx : (lev n k)[i]? = some (lev n k)[i] := List.getElem?_eq_getElem hil
      have hg := (mem_lev n k (lev n k)[i]).mp (List.getElem_mem hil)
      have lf : (((lev n k).take i).flatMap (nxt n)).length ≤ 128 := by
        have s : (((lev n k).take i).flatMap (nxt n)).Sublist ((lev n k).flatMap (nxt n)) := by
          have := List.sublist_append_left (((lev n k).take i).flatMap (nxt n)) (((lev n k).drop i).flatMap (nxt n))
          rwa [← List.flatMap_append, List.take_append_drop] at this
        have s : (((lev n k).take i).flatMap (nxt n)).Sublist (lev n (k + 1)) := s
        have := s.length_le
        rw [acc_succ, List.length_append] at l2
        omega
      have ha : (acc n (k + 1) ++ ((lev n k).take i).flatMap (nxt n))[(acc n k).length + i]? = some (lev n k)[i] := by
        rw [acc_succ, List.append_assoc, List.getElem?_append_right (by omega), show (acc n k).length + i - (acc n k).length = i by omega, List.getElem?_append_left hil]
        exact hx
      generalize (lev n k)[i] = one at hx hg ha
      have h1 := gp_len hg.1 h7
      walk_at "dw"
      rw [← Int.natCast_add]
      refine ⟨_, atI_rows ha, ?_⟩
      refine ⟨_, rfl, rg62_nat h0 (by omega), small_line (by simp; omega), ?_⟩
      rw [rg0]
      refine wLc_map D.int (okNext one) (fun p => tI (one ++ [p])) (rgI n) _ (fun p hp R1 R0 h => ?_) ?_
      · walk_at "dw"
        refine ⟨Nat.zero_le _, eq_tI (s := []) hg.1 ⟨by simp, by simp⟩ h7 ⟨_, rfl, ?_⟩⟩
        rcases last_or (a := one) with rfl | ⟨b, l, rfl⟩
        · simp only [okNext, List.getLast?_nil, if_true] at h
          rw [if_pos (by simp)]
          exact ⟨le_line (by decide), add_tI (p := []) (q := [p]) (by simp) h⟩
        · rw [if_neg (by simp)]
          refine ix_last ?_
          try walk_at "dw"
          simp only [okNext, List.getLast?_append, List.getLast?_singleton, Option.some_or] at h
          by_cases c : l < p
          · rw [if_pos c]
            rw [if_pos (decide_eq_true c)] at h
            try walk_at "dw"
            rw [List.length_append] at h1
            exact ⟨le_line (by decide), add_tI (q := [p]) (by simp; omega) h⟩
          · rw [if_neg c]
            rwa [if_neg (by simpa using c)] at h
      · have e : ((rgI n).filter (okNext one)).map (fun p => tI (one ++ [p])) = (nxt n one).map tI := by unfold nxt; rw [List.map_map]; rfl
        rw [e]
        have ln : (nxt n one).length ≤ 7 := by
          unfold nxt
          rw [List.length_map]
          refine Nat.le_trans (List.length_filter_le _ _) ?_
          rw [rgI_len]; omega
        refine ⟨le_line (by simp only [List.length_map, List.length_append]; omega), ?_⟩
        have e3 : (acc n (k + 1) ++ ((lev n k).take i).flatMap (nxt n)).map tI ++ (nxt n one).map tI = (acc n (k + 1) ++ ((lev n k).take (i + 1)).flatMap (nxt n)).map tI := by
          rw [take_one hx, List.flatMap_append]
          simp only [List.flatMap_cons, List.flatMap_nil, List.append_nil, List.map_append, List.append_assoc]
        rw [e3]
        exact hK2 _ ⟨_, _, _, rfl⟩
    · rintro st ⟨s5, s6, s7, rfl⟩
      rw [Nat.zero_add, List.length_map, List.length_range, List.take_length]
      walk_at "dw"
      rw [show (lev n k).flatMap (nxt n) = lev n (k + 1) from rfl, ← acc_succ, List.length_map]
      exact hK _ ⟨_, _, _, _, _, rfl⟩
  · rintro st ⟨s3, s4, s5, s6, s7, rfl⟩
    refine ⟨_, rfl, hq _ ?_⟩
    rw [Nat.zero_add, List.length_map, List.length_range]
    exact allG_acc h0 h7

abbrev l_can_s : Stmt := topS 48
theorem l_can_sc : FnScope ["_law_size", "_law_jobs_here", "_law_lots", "_law_can_here", "_law_group", "_law_job_here", "_law_more", "_law_fewer", "_law_k", "_law_one_here"] ["_law_size", "_law_jobs_here"] (defScope l_can_s) := ⟨rfl, rfl, rfl, by decide +kernel, rfl, by decide +kernel, by decide +kernel⟩
theorem l_can_ok {l_can_f : Addr} {l_can_fd : FuncData} (l_can_D : Dfn K mg "_law_can" "_law_can" l_can_s ["_law_size", "_law_jobs_here"] l_can_f l_can_fd) (T : Bltn mg)
    {l_groups_f : Addr} {l_groups_fd : FuncData} (l_groups_D : Dfn K mg "_law_groups" "_law_groups" l_groups_s ["_law_size"] l_groups_f l_groups_fd) (l_groups_G : FnOk P w K mg base CX0 1 l_groups_f l_groups_fd ["_law_size"] (spOf g 1 spLGroups)) : FnOk P w K mg base CX0 2 l_can_f l_can_fd ["_law_size", "_law_jobs_here"] (spOf g 2 spLCan) := by
  refine def_ok l_can_D.F l_can_sc rfl (fun cdv A fr s H E hr =>
    (wss_cons (ws_parDTc 2 3 (by decide) (we_call (wa_cons (we_v 0 (pv 0)) wa_nil) (fun t h => pe_call l_groups_G (hr.mono (by decide)) (by rfl) l_groups_D.m l_groups_D.F.kp l_groups_D.b .nil pass0 h)) (fun t1 t2 h1 h2 => ps_asg (pe_tup (pa_cons h1 (pa_cons h2 pa_nil))) (pg_tup rfl (pgs_cons (pg_name (i := 2) l_can_sc.nd rfl (by first | exact Or.inl rfl | exact Or.inr rfl)) (pgs_cons (pg_name (i := 3) l_can_sc.nd rfl (by first | exact Or.inl rfl | exact Or.inr rfl)) pgs_nil)))))
    (wss_cons (ws_for rfl (wi_seq (we_v 2 (pv 2))) (wg_name 4 (pg_name l_can_sc.nd rfl (by first | exact Or.inl rfl | exact Or.inr rfl)))
    (wss_one (ws_dput 3 hr.units (we_cmp (op_eqF hr.units) s2_eqF (wr_v 4 (pv 4)) (we_tup wa_nil).rd (nomark _)) (pv 3) (wr_v 4 (pv 4)))))
    (wss_frz 3 (wss_cons (ws_for rfl (wi_seq (we_v 1 (pv 1))) (wg_name 5 (pg_name l_can_sc.nd rfl (by first | exact Or.inl rfl | exact Or.inr rfl)))
    (wss_cons (ws_ownDT 6 (fun te h => ps_set (i := 6) l_can_sc.nd rfl (by first | exact Or.inl rfl | exact Or.inr rfl) h))
    (wss_cons (ws_for rfl (wi_seq (we_v 2 (pv 2))) (wg_name 4 (pg_name l_can_sc.nd rfl (by first | exact Or.inl rfl | exact Or.inr rfl)))
    (wss_cons (ws_setLc (own := [("_law_k", 8)]) 7 false rfl l_can_sc.nd rfl rfl (sw_true rfl rfl rfl (by decide +kernel)) (wi_rg1 (we_cb (war_cons (wr_v 4 (pv 4)) war_nil) sc_len (fun t h => pe_callB call_len_seq (by rfl) T.len (by decide +kernel) h)) (by rfl) T.range) (blkOk_by (N := ["_law_size", "_law_jobs_here", "_law_lots", "_law_can_here", "_law_group", "_law_job_here", "_law_more", "_law_fewer", "_law_k", "_law_one_here"]) (sc := defScope l_can_s) (own := [("_law_k", 8)]) (by decide +kernel)) (fun _ => (wg_name 8 (pg_name l_can_sc.nd rfl (by first | exact Or.inl rfl | exact Or.inr rfl)))) (fun _ => (wts_one (wt_cmp op_in_seq s2_in (we_ix ix_seq s2_ix (wr_v 4 (pv 4)) (wr_v 8 (pv 8))).rd (wr_v 5 (pv 5)) (by rfl)))) (fun _ => (we_bin op_addA s2_add (we_slice (wr_v 4 (pv 4)) wo_none (wo_some (we_v 8 (pv 8)))).rd (we_slice (wr_v 4 (pv 4)) (wo_some (we_bin op_addA s2_add (wr_v 8 (pv 8)) (we_int).rd)) wo_none).rd)))
    (wss_one (ws_dput 6 hr.units (we_or (we_dget hr.units (wr_v 3 (pv 3)) (wr_v 4 (pv 4))) (we_one (we_cb (war_cons (we_lc (own := [("_law_one_here", 9)]) rfl l_can_sc.nd (wi_seq (we_v 7 (pv 7))) (blkOk_by (N := ["_law_size", "_law_jobs_here", "_law_lots", "_law_can_here", "_law_group", "_law_job_here", "_law_more", "_law_fewer", "_law_k", "_law_one_here"]) (sc := defScope l_can_s) (own := [("_law_one_here", 9)]) (by decide +kernel)) (fun _ => (wg_name 9 (pg_name l_can_sc.nd rfl (by first | exact Or.inl rfl | exact Or.inr rfl)))) (fun _ => wts_nil) (fun _ => (we_dget hr.units (wr_v 3 (pv 3)) (wr_v 9 (pv 9))))).rd war_nil) sc_any (fun t h => pe_callB (cr_any rfl) (by rfl) T.any (by decide +kernel) h)))) (pv 6) (wr_v 4 (pv 4))))))
    (wss_frz 6 (wss_one (ws_set 3 (we_v 6 (pv 6)) (fun te h => ps_set (i := 3) l_can_sc.nd rfl (by first | exact Or.inl rfl | exact Or.inr rfl) h)))))))
    (wss_one (ws_ret (we_v 3 (pv 3))))))))) ?_
  rintro ds Q hl ⟨n, rows, hds, hg, hq⟩
  obtain ⟨dr, rfl, hdr⟩ : ∃ dr, ds = [.int n, dr] ∧ (dr = lT rows ∨ dr = tT rows) := by
    rcases hds with rfl | rfl
    · exact ⟨_, rfl, .inl rfl⟩
    · exact ⟨_, rfl, .inr rfl⟩
  have hse : ∀ R : List D → Prop, R (rows.map tI) → mSeq dr R := fun R h => by rcases hdr with rfl | rfl <;> exact h
  have h7 := hg.n7
  have hl7 := hg.len
  clear hds hdr
  walk_at "dw"
  refine ⟨n, rfl, hg.n0, hg.n7, fun out ha => ?_⟩
  have hol := ha.len
  show wFor _ _ _ (out.map tI) _
  refine wFor_inv (fun i st => ∃ s4, st = [.val (.int n), .val dr, .val (lT out), .ow (.dT ((out.take i).map fun g => (keyI g, .bl (HL.can [] g)))), s4, .un, .un, .un, .un, .un]) (fun _ _ _ => trivial) _ 0 _ ⟨_, rfl⟩ ?_ ?_
  · rintro i d hi st ⟨s4, rfl⟩ K hK
    rw [Nat.zero_add] at hK ⊢
    obtain ⟨x, hx, rfl⟩ := row_at hi
    have gx := (ha.mem x).mp (List.mem_of_getElem? hx)
    refine ⟨⟨_, rfl⟩, ?_⟩
    walk_at "dw"
    refine ⟨Nat.zero_le _, eq_tI (s := []) gx ⟨by simp, by simp⟩ h7 (.inl ⟨_, keyI x, rfl, keyD_I x, small_line (by simp; omega), ?_⟩)⟩
    rw [can_nil, putT (f := fun g => .bl (HL.can [] g)) (nd_take ha.nd hx), ← take_one hx]
    exact hK _ ⟨_, rfl⟩
  · rintro st ⟨s4, rfl⟩
    rw [Nat.zero_add, List.length_map, List.take_length]
    simp only [frz_s, frz_c]
    walk_at "dw"
    refine hse _ ?_
    refine wFor_inv (fun j st => ∃ s4 s5 s6 s7 s8 s9, st = [.val (.int n), .val dr, .val (lT out), .val (canT (rows.take j).reverse out), s4, s5, s6, s7, s8, s9]) (fun _ _ _ => trivial) _ 0 _ ⟨_, _, _, _, _, _, rfl⟩ ?_ ?_
    · rintro j d hj st ⟨s4, s5, s6, s7, s8, s9, rfl⟩ K hK
      rw [Nat.zero_add] at hK ⊢
      obtain ⟨r, hr, rfl⟩ := row_at hj
      have gr := hg.row hr
      have lr := hg.rlen hr
      walk_at "dw"
      show wFor _ _ _ (out.map tI) _
      refine wFor_inv (fun i st => ∃ s4 s7 s8 s9, st = [.val (.int n), .val dr, .val (lT out), .val (canT (rows.take j).reverse out), s4, .val (tI r), .ow (.dT ((out.take i).map fun g => (keyI g, .bl (HL.can (r :: (rows.take j).reverse) g)))), s7, s8, s9]) (fun _ _ _ => trivial) _ 0 _ ⟨_, _, _, _, rfl⟩ ?_ ?_
      · rintro i d hi st ⟨s4, s7, s8, s9, rfl⟩ K2 hK2
        rw [Nat.zero_add] at hK2 ⊢
        obtain ⟨x, hx, rfl⟩ := row_at hi
        have mx := List.mem_of_getElem? hx
        have gx := (ha.mem x).mp mx
        have lx := gp_len gx h7
        generalize (rows.take j).reverse = rs at hK2 ⊢
        have fin : ∀ (b : Bool) s7 s8 s9, b = HL.can (r :: rs) x → K2 [.val (.int n), .val dr, .val (lT out), .val (canT rs out), .val (tI x), .val (tI r), .ow (.dT (putD ((out.take i).map fun g => (keyI g, .bl (HL.can (r :: rs) g))) (keyI x) (.bl b))), s7, s8, s9] := by
          intro b s7 s8 s9 hb
          rw [hb, putT (f := fun g => .bl (HL.can (r :: rs) g)) (nd_take ha.nd hx), ← take_one hx]
          exact hK2 _ ⟨_, _, _, _, rfl⟩
        walk_at "dw"
        refine len_tI ⟨_, rfl, rg62_nat (by omega) (by omega), small_line (by simp; omega), ?_⟩
        rw [Int.toNat_natCast]
        refine wLc_map (fun k : Nat => D.int (0 + (k : Int))) (fun k => r.contains (x.getD k 0)) (fun k => tI (x.eraseIdx k)) (List.range x.length) _ (fun k hk R1 R0 h => ?_) ?_
        · rw [List.mem_range] at hk
          simp only [Int.zero_add]
          walk_at "dw"
          refine ix_tI hk (in_tI ⟨_, rfl, ?_⟩)
          simp only [Bool.false_eq_true, if_false]
          cases z : r.contains (x.getD k 0) with
          | true =>
            rw [z, if_pos rfl] at h
            rw [if_pos rfl]
            exact cuts_tI (Q := fun _ d => R1 d) (by omega) h
          | false =>
            rw [z, if_neg (by simp)] at h
            rw [if_neg (by simp)]
            exact h
        · refine ⟨⟨_, rfl⟩, dget_T (f := fun g => .bl (HL.can rs g)) mx ⟨_, rfl, ?_⟩⟩
          have le : ∀ k : Nat, x.eraseIdx k ∈ out := fun k => (ha.mem _).mpr (gp_erase gx k)
          cases z : HL.can rs x with
          | true =>
            rw [if_pos rfl]
            try walk_at "dw"
            exact .inl ⟨_, keyI x, rfl, keyD_I x, small_line (by simp; omega), fin true _ _ _ (by simp [HL.can, z])⟩
          | false =>
            rw [if_neg (by simp)]
            have lf : ((List.range x.length).filter fun k => r.contains (x.getD k 0)).length ≤ 7 := by
              refine Nat.le_trans (List.length_filter_le _ _) ?_
              rw [List.length_range]; exact lx
            refine ⟨small_line (by rw [List.length_map]; omega), wLc_all (fun k => tI (x.eraseIdx k)) (fun k => D.bl (HL.can rs (x.eraseIdx k))) _ _ (fun k hk R h => ?_) ?_⟩
            · walk_at "dw"
              exact dget_T (f := fun g => .bl (HL.can rs g)) (le k) h
            · refine ⟨((List.range x.length).filter fun k => r.contains (x.getD k 0)).map fun k => HL.can rs (x.eraseIdx k), by rw [List.map_map]; rfl, ?_⟩
              refine .inl ⟨_, keyI x, rfl, keyD_I x, small_line (by simp; omega), fin _ _ _ _ ?_⟩
              rw [List.any_map, List.any_filter]
              simp only [HL.can, z, Bool.false_or]
              rfl
      · rintro st ⟨s4, s7, s8, s9, rfl⟩
        rw [Nat.zero_add, List.length_map, List.take_length]
        simp only [frz_s, frz_c]
        walk_at "dw"
        have e : r :: (rows.take j).reverse = (rows.take (j + 1)).reverse := by rw [take_one hr, List.reverse_append]; rfl
        rw [e]
        exact hK _ ⟨_, _, _, _, _, _, rfl⟩
    · rintro st ⟨s4, s5, s6, s7, s8, s9, rfl⟩
      rw [Nat.zero_add, List.length_map, List.take_length]
      exact hq out ha

end
end K68
namespace DW
open PySem PySem.Spec PyProof.Rows L2

def optD : Option (List Int) → D | none => .non | some g => tI g
def bt (G : List Int) : Nat := G.foldr (fun p a => 2 ^ p.toNat ||| a) 0
def spBits (ds : List D) (Q : RQ) : Prop := ∃ (n : Int) (grp : List Int), ds = [tI grp] ∧ Gp n grp ∧ n ≤ 7 ∧ Q false (.int ((bt grp : Nat) : Int))
def spPlace (C : Addr) (ds : List D) (Q : RQ) : Prop := ∃ n rows, ds = [jO C n rows] ∧ good n rows ∧ ∀ out, AllG n out → Q true (lT (out.filter (HL.can rows.reverse)))
def spFirstLost (C : Addr) (ds : List D) (Q : RQ) : Prop := ∃ (n : Int) (rows grps : List (List Int)), (ds = [lT grps, jO C n rows] ∨ ds = [tT grps, jO C n rows]) ∧ good n rows ∧ (∀ G ∈ grps, Gp n G) ∧ grps.length ≤ 128 ∧ Q false (optD (grps.find? fun G => !HL.can rows.reverse G))
def spLostJ (C : Addr) (ds : List D) (Q : RQ) : Prop := ∃ (n : Int) (rows rows2 : List (List Int)), ds = [jO C n rows, jO C n rows2] ∧ good n rows ∧ good n rows2 ∧ ∀ out, AllG n out → Q false (optD (out.find? fun G => HL.can rows.reverse G && !HL.can rows2.reverse G))
def spMayPut (C : Addr) (ds : List D) (Q : RQ) : Prop := ∃ (n : Int) (rows : List (List Int)) (at_ : Nat) (r : List Int) (p : Int), ds = [jO C n rows, .int (at_ : Int), .int p] ∧ good n rows ∧ rows[at_]? = some r ∧ 0 ≤ p ∧ p < n ∧
  ∀ out, AllG n out → Q false (optD (out.find? fun G => HL.can (rows.set at_ (ins n r p)).reverse G && !HL.can rows.reverse G))

theorem bt_test : ∀ {G : List Int}, (∀ p ∈ G, 0 ≤ p) → ∀ k : Nat, (bt G).testBit k = G.contains (k : Int)
  | [], _, k => by simp [bt]
  | p :: G, h, k => by
    have ih := bt_test (G := G) (fun q hq => h q (List.mem_cons_of_mem _ hq)) k
    have hp := h p List.mem_cons_self
    show (2 ^ p.toNat ||| bt G).testBit k = _
    rw [Nat.testBit_or, Nat.testBit_two_pow, ih, List.contains_cons]
    congr 1
    rw [Bool.eq_iff_iff, decide_eq_true_eq, beq_iff_eq]
    omega
theorem Gp.nn {n : Int} {G : List Int} (h : Gp n G) : ∀ p ∈ G, 0 ≤ p := fun p hp => (h.2 p hp).1
theorem bt_inj {n : Int} {G H : List Int} (hG : Gp n G) (hH : Gp n H) (e : bt G = bt H) : G = H := by
  refine rise_uniq hG.1 hH.1 fun k => ?_
  have key : ∀ {A B : List Int}, Gp n A → Gp n B → bt A = bt B → k ∈ A → k ∈ B := by
    intro A B hA hB e hk
    have h0 := hA.nn k hk
    have t := bt_test hA.nn k.toNat
    rw [e, bt_test hB.nn] at t
    have ek : ((k.toNat : Nat) : Int) = k := by omega
    rw [ek] at t
    have : A.contains k = true := by simpa using hk
    rw [this] at t
    simpa using t
  exact ⟨key hG hH e, key hH hG e.symm⟩
theorem bt_put {n : Int} {G G' : List Int} {p : Int} (hG : Gp n G) (hG' : Gp n G') (hp : 0 ≤ p) (h : ∀ x, x ∈ G' ↔ x ∈ G ∨ x = p) : bt G' = bt G ||| 2 ^ p.toNat := by
  apply Nat.eq_of_testBit_eq
  intro k
  rw [Nat.testBit_or, bt_test hG'.nn, bt_test hG.nn, Nat.testBit_two_pow, Bool.eq_iff_iff, Bool.or_eq_true, decide_eq_true_eq]
  simp only [List.contains_eq_mem, decide_eq_true_eq]
  rw [h]
  constructor
  · rintro (z | z)
    · exact .inl z
    · exact .inr (by omega)
  · rintro (z | z)
    · exact .inl z
    · exact .inr (by omega)
theorem bt_lt {n : Int} {G : List Int} (h7 : n ≤ 7) (hG : Gp n G) : bt G < 128 := by
  show bt G < 2 ^ 7
  apply Nat.lt_pow_two_of_testBit
  intro i hi
  rw [bt_test hG.nn]
  cases z : G.contains (i : Int) with
  | false => rfl
  | true =>
    have := hG.2 (i : Int) (by simpa using z)
    omega
theorem bt_dvd : ∀ {G : List Int} {m : Nat}, (∀ p ∈ G, (m : Int) ≤ p) → 2 ^ m ∣ (G.map fun p => 2 ^ p.toNat).sum
  | [], m, _ => by simp
  | p :: G, m, h => by
    rw [List.map_cons, List.sum_cons]
    have hp := h p List.mem_cons_self
    exact Nat.dvd_add (Nat.pow_dvd_pow 2 (by omega)) (bt_dvd fun q hq => h q (List.mem_cons_of_mem _ hq))
theorem bt_sumN : ∀ {G : List Int}, G.Pairwise (· < ·) → (∀ p ∈ G, 0 ≤ p) → (G.map fun p => 2 ^ p.toNat).sum = bt G
  | [], _, _ => rfl
  | p :: G, hs, h => by
    have hs' := List.pairwise_cons.mp hs
    have hp := h p List.mem_cons_self
    have ih := bt_sumN hs'.2 fun q hq => h q (List.mem_cons_of_mem _ hq)
    obtain ⟨c, hc⟩ := bt_dvd (G := G) (m := p.toNat + 1) (fun q hq => by have := hs'.1 q hq; omega)
    show _ = 2 ^ p.toNat ||| bt G
    rw [List.map_cons, List.sum_cons, ← ih, hc, Nat.or_comm, ← Nat.two_pow_add_eq_or_of_lt (Nat.pow_lt_pow_right (by decide) (Nat.lt_succ_self _)), Nat.add_comm]
theorem bt_sum {n : Int} {G : List Int} (hG : Gp n G) : (G.map fun p => (1 : Int) * 2 ^ p.toNat).sum = ((bt G : Nat) : Int) := by
  rw [← bt_sumN hG.1 hG.nn]
  induction G with
  | nil => rfl
  | cons p G ih =>
    rw [List.map_cons, List.map_cons, List.sum_cons, List.sum_cons, ih (hG.sub (List.sublist_cons_self _ _))]
    simp
theorem bor_int {b : Nat} {p : Int} : Builtin.bitOr (b : Int) (1 * 2 ^ p.toNat) = ((b ||| 2 ^ p.toNat : Nat) : Int) := by
  have e : (1 : Int) * 2 ^ p.toNat = ((2 ^ p.toNat : Nat) : Int) := by simp
  rw [e, bitOr_nn (Int.natCast_nonneg _) (Int.natCast_nonneg _), Int.toNat_natCast, Int.toNat_natCast]
/-! ### the numbers that are marked -/
def mk (ks : List Nat) : List (L2.Key × D) := ks.map fun (x : Nat) => (Sum.inl (x : Int), D.bl true)
def addK (ks : List Nat) (x : Nat) : List Nat := if x ∈ ks then ks else ks ++ [x]
theorem inl_inj {a b : Nat} : ((Sum.inl (a : Int) : L2.Key) = Sum.inl (b : Int)) ↔ a = b := by
  constructor
  · intro h; injection h with h; omega
  · rintro rfl; rfl
theorem mk_put (ks : List Nat) (x : Nat) : putD (mk ks) (Sum.inl (x : Int)) (.bl true) = mk (addK ks x) := by
  unfold putD addK
  have e : ((mk ks).any fun kv => decide (kv.1 = Sum.inl (x : Int))) = decide (x ∈ ks) := by
    unfold mk
    rw [List.any_map, Bool.eq_iff_iff, List.any_eq_true, decide_eq_true_eq]
    simp only [Function.comp, decide_eq_true_eq, inl_inj]
    constructor
    · rintro ⟨y, a, rfl⟩; exact a
    · intro a; exact ⟨x, a, rfl⟩
  rw [e]
  by_cases h : x ∈ ks
  · rw [decide_eq_true h, if_pos rfl, if_pos h]
    unfold mk
    rw [List.map_map]
    refine List.map_congr_left fun y _ => ?_
    simp only [Function.comp]
    split <;> rfl
  · rw [decide_eq_false h, if_neg (by simp), if_neg h]
    unfold mk
    rw [List.map_append]; rfl
theorem mk_val (ks : List Nat) (x : Nat) : (valD (mk ks) (Sum.inl (x : Int))).isSome = decide (x ∈ ks) := by
  unfold valD mk
  rw [Option.isSome_map, Bool.eq_iff_iff, List.find?_isSome, decide_eq_true_eq]
  constructor
  · rintro ⟨y, a, e⟩
    obtain ⟨z, hz, rfl⟩ := List.mem_map.mp a
    exact inl_inj.mp (of_decide_eq_true e) ▸ hz
  · intro a; exact ⟨_, List.mem_map.mpr ⟨x, a, rfl⟩, decide_eq_true rfl⟩
/-- what is marked: the groups placeable in rs -/
structure Mk (rs : List (List Int)) (n : Int) (ks : List Nat) : Prop where
  nd : ks.Nodup
  at_ : ∀ x, x ∈ ks ↔ ∃ G, Gp n G ∧ HL.can rs G = true ∧ x = bt G
/-- in the midst of a job -/
structure Md (rs : List (List Int)) (r : List Int) (n : Int) (k0 ks : List Nat) : Prop where
  nd : ks.Nodup
  snd : ∀ x ∈ ks, ∃ G, Gp n G ∧ HL.can (r :: rs) G = true ∧ x = bt G
  old : ∀ x ∈ k0, x ∈ ks
theorem mem_addK {ks : List Nat} {x y : Nat} : y ∈ addK ks x ↔ y ∈ ks ∨ y = x := by
  unfold addK
  split
  · rename_i h
    constructor
    · exact .inl
    · rintro (z | rfl)
      · exact z
      · exact h
  · simp
theorem nd_addK {ks : List Nat} {x : Nat} (h : ks.Nodup) : (addK ks x).Nodup := by
  unfold addK
  split
  · exact h
  · rename_i n
    rw [List.nodup_append]
    exact ⟨h, by simp, fun a ha b hb e => n (by rw [List.mem_singleton.mp hb] at e; exact e ▸ ha)⟩
theorem len_ks {n : Int} {ks : List Nat} (h7 : n ≤ 7) (nd : ks.Nodup) (h : ∀ x ∈ ks, ∃ G, Gp n G ∧ x = bt G) : ks.length ≤ 128 := by
  have := nd.length_le_of_subset (l₂ := List.range 128) fun x hx => by
    obtain ⟨G, g1, rfl⟩ := h x hx
    exact List.mem_range.mpr (bt_lt h7 g1)
  rwa [List.length_range] at this
theorem Md.len {rs : List (List Int)} {r : List Int} {n : Int} {k0 ks : List Nat} (h7 : n ≤ 7) (h : Md rs r n k0 ks) : ks.length ≤ 128 := len_ks h7 h.nd fun x hx => let ⟨G, a, _, e⟩ := h.snd x hx; ⟨G, a, e⟩
theorem mk_start (n : Int) : Mk [] n [0] := by
  refine ⟨by simp, fun x => ?_⟩
  rw [List.mem_singleton]
  constructor
  · rintro rfl; exact ⟨[], ⟨.nil, fun x h => nomatch h⟩, rfl, rfl⟩
  · rintro ⟨G, _, c, rfl⟩
    have : G = [] := by simpa [HL.can] using c
    rw [this]; rfl
theorem Mk.md {rs : List (List Int)} {n : Int} {ks : List Nat} (r : List Int) (h : Mk rs n ks) : Md rs r n ks ks := ⟨h.nd, fun x hx => let ⟨G, a, b, c⟩ := (h.at_ x).mp hx; ⟨G, a, by simp [HL.can, b], c⟩, fun x hx => hx⟩
theorem erase_self {n : Int} {G' G : List Int} {p : Int} (hG' : Gp n G') (hG : Gp n G) (hp : p ∉ G) (h : ∀ x, x ∈ G' ↔ x ∈ G ∨ x = p) : ∃ k, k < G'.length ∧ G'.getD k 0 = p ∧ G'.eraseIdx k = G := by
  obtain ⟨k, hk, e⟩ := List.mem_iff_getElem.mp ((h p).mpr (.inr rfl))
  have e2 : G'.getD k 0 = p := by simp [List.getD_eq_getElem?_getD, hk, e]
  refine ⟨k, hk, e2, rise_uniq (hG'.1.sublist (List.eraseIdx_sublist _ _)) hG.1 fun x => ?_⟩
  rw [HL.mem_eraseIdx_ne (gp_nd hG') hk, e2, h]
  constructor
  · rintro ⟨a | a, b⟩
    · exact a
    · exact absurd a b
  · intro a; exact ⟨.inl a, fun z => hp (z ▸ a)⟩
theorem Md.step {rs : List (List Int)} {r : List Int} {n : Int} {k0 ks : List Nat} {b : Nat} {p : Int} (h0 : Mk rs n k0) (hr : Gp n r) (h : Md rs r n k0 ks) (hb : b ∈ k0) (hp : p ∈ r) : Md rs r n k0 (addK ks (b ||| 2 ^ p.toNat)) := by
  refine ⟨nd_addK h.nd, fun x hx => ?_, fun x hx => mem_addK.mpr (.inl (h.old x hx))⟩
  rcases mem_addK.mp hx with z | rfl
  · exact h.snd x z
  · obtain ⟨G, g1, g2, rfl⟩ := (h0.at_ b).mp hb
    have rp := hr.2 p hp
    have gi : Gp n ((rgI n).filter fun k => G.contains k || k == p) := (gp_rg n).filter _
    have mi : ∀ x, x ∈ ((rgI n).filter fun k => G.contains k || k == p) ↔ x ∈ G ∨ x = p := by
      intro x
      rw [List.mem_filter, mem_rgI]
      simp only [Bool.or_eq_true, List.contains_eq_mem, decide_eq_true_eq, beq_iff_eq]
      constructor
      · exact fun z => z.2
      · rintro (z | rfl)
        · exact ⟨g1.2 x z, .inl z⟩
        · exact ⟨rp, .inr rfl⟩
    refine ⟨_, gi, ?_, (bt_put g1 gi rp.1 mi).symm⟩
    by_cases z : p ∈ G
    · have : ((rgI n).filter fun k => G.contains k || k == p) = G := rise_uniq gi.1 g1.1 fun x => by
        rw [mi]
        exact ⟨fun y => y.elim id fun y => y ▸ z, .inl⟩
      rw [this]
      simp [HL.can, g2]
    · obtain ⟨k, hk, e1, e2⟩ := erase_self gi g1 z mi
      unfold HL.can
      rw [Bool.or_eq_true, List.any_eq_true]
      exact .inr ⟨k, List.mem_range.mpr hk, by rw [e1, e2, g2]; simpa using hp⟩
theorem Md.done {rs : List (List Int)} {r : List Int} {n : Int} {k0 ks : List Nat} (h0 : Mk rs n k0) (h : Md rs r n k0 ks) (hd : ∀ b ∈ k0, ∀ p ∈ r, b ||| 2 ^ p.toNat ∈ ks) : Mk (r :: rs) n ks := by
  refine ⟨h.nd, fun x => ⟨h.snd x, ?_⟩⟩
  rintro ⟨G, g1, g2, rfl⟩
  unfold HL.can at g2
  rw [Bool.or_eq_true, List.any_eq_true] at g2
  rcases g2 with g2 | ⟨k, hk, g2⟩
  · exact h.old _ ((h0.at_ _).mpr ⟨G, g1, g2, rfl⟩)
  · rw [Bool.and_eq_true] at g2
    have hk := List.mem_range.mp hk
    have ge := gp_erase g1 k
    have hp : G.getD k 0 ∈ r := by simpa using g2.1
    have mp : G.getD k 0 ∈ G := by
      have : G.getD k 0 = G[k] := by simp [List.getD_eq_getElem?_getD, hk]
      rw [this]; exact List.getElem_mem hk
    have z := hd _ ((h0.at_ _).mpr ⟨_, ge, g2.2, rfl⟩) _ hp
    rwa [← bt_put ge g1 (g1.nn _ mp) fun x => ?_] at z
    rw [HL.mem_eraseIdx_ne (gp_nd g1) hk]
    constructor
    · intro hx
      by_cases e : x = G.getD k 0
      · exact .inr e
      · exact .inl ⟨hx, e⟩
    · rintro (z | rfl)
      · exact z.1
      · exact mp
theorem Mk.can {rs : List (List Int)} {n : Int} {ks : List Nat} (h : Mk rs n ks) {G : List Int} (hG : Gp n G) : decide (bt G ∈ ks) = HL.can rs G := by
  rw [Bool.eq_iff_iff, decide_eq_true_eq, h.at_]
  constructor
  · rintro ⟨H, a, b, c⟩
    rw [bt_inj hG a c]; exact b
  · intro c; exact ⟨G, hG, c, rfl⟩
theorem allP_G {n : Int} {out : List (List Int)} (h : AllP (rgI n) out) : AllG n out := ⟨h.ord, h.nd, fun P => (h.mem P).trans ⟨(gp_rg n).sub, gp_sub⟩, h.len⟩
theorem nat_at {ks : List Nat} {i : Nat} {d : D} (h : (ks.map fun x => D.int ((x : Nat) : Int))[i]? = some d) : ∃ x : Nat, ks[i]? = some x ∧ d = .int (x : Int) := by
  rw [List.getElem?_map] at h
  cases q : ks[i]? with
  | none => rw [q] at h; cases h
  | some x => rw [q] at h; cases h; exact ⟨x, rfl, rfl⟩
theorem valT_some {f : List Int → D} {l : List (List Int)} {G : List Int} : (valD (l.map fun g => (keyI g, f g)) (keyI G)).isSome = decide (G ∈ l) := by
  unfold valD
  rw [Option.isSome_map, Bool.eq_iff_iff, List.find?_isSome, decide_eq_true_eq]
  constructor
  · rintro ⟨y, a, e⟩
    obtain ⟨H, hH, rfl⟩ := List.mem_map.mp a
    exact keyI_inj (of_decide_eq_true e) ▸ hH
  · intro a; exact ⟨_, List.mem_map.mpr ⟨G, a, rfl⟩, decide_eq_true rfl⟩
/-- {x: True for x in l} -/
theorem wDc_true {bn : WPG} {tt : WPT} {tk tv : WP} {s0 : Sx} : ∀ (l done : List (List Int)) (Q : Ct → Prop), (done ++ l).Nodup → (done ++ l).length ≤ 1000000 → (∀ x ∈ l, ∀ R : Sx → Prop, True) →
    (∀ x ∈ l, ∀ R : Ct → Prop, ∀ acc : Ct, putC acc (tI x) (.bl true) R → bn (tI x) s0 fun s => tt s fun c => if c = true then tk s fun _ y => tv s fun _ z => putC acc y z R else R acc) →
    Q (.dT ((done ++ l).map fun g => (keyI g, .bl true))) → wDc bn tt tk tv s0 (l.map tI) (.dT (done.map fun g => (keyI g, .bl true))) Q
  | [], done, Q, _, _, _, _, h => by simpa [wDc] using h
  | x :: l, done, Q, nd, hl, _, hs, h => by
    rw [List.map_cons, wDc]
    have nx : x ∉ done := fun z => by
      rw [List.nodup_append] at nd
      exact nd.2.2 x z x (by simp) rfl
    refine hs x List.mem_cons_self (fun acc' => wDc bn tt tk tv s0 (l.map tI) acc' Q) _ ⟨keyI x, keyD_I x, small_line (by rw [List.length_map]; rw [List.length_append] at hl; omega), ?_⟩
    rw [putT (f := fun _ => .bl true) nx]
    exact wDc_true l (done ++ [x]) Q (by simpa using nd) (by simpa using hl) (fun _ _ _ => trivial) (fun y hy => hs y (List.mem_cons_of_mem _ hy)) (by simpa using h)
theorem find_filter {p q : List Int → Bool} (l : List (List Int)) : (l.filter p).find? q = l.find? fun x => p x && q x := by
  induction l with
  | nil => rfl
  | cons x l ih =>
    rw [List.filter_cons, List.find?_cons]
    cases h : p x with
    | true => rw [if_pos rfl, List.find?_cons, ih]; simp
    | false => rw [if_neg (by simp), ih]; simp
end DW
namespace K68
open PySem PySem.Spec PyProof.Rows L2 DW
local macro_rules | `(tactic| walk_at "dw") => `(tactic| simp only [rdS_0, rdS_s, rdO_0, rdO_1, rdO_s, startS, endD, mAdd_i, mAdd_b, mAdd_l, mAdd_t, mI_i, mIC_i, mB_i, mLen_l, mLen_t, mList_l, mList_t, mTuple_l, mTuple_t, mInt1_i, mInt1_b, mAbs_i, mIx_l, mIx_t, mSl_l, mSl_t, mSeq_l, mSeq_t, mEnum_l, mEnum_t, mFld_o, mExt_l, mRev_l, mRepr_1, put_f, put_t, frz_0, frz_1, frz_2, frz_s, wpS_0, wpS_1, DW.putAll,
  List.map_cons, List.map_nil, List.cons_append, List.nil_append, List.length_cons, List.length_nil, List.replicate_succ, List.replicate_zero, List.set_cons_zero, List.set_cons_succ, List.set_nil, Nat.reduceAdd, Nat.reduceSub, Nat.zero_add, Bool.not_true, Bool.not_false, if_true, if_false, Bool.false_eq_true, and_true, true_and, decide_eq_true_eq, eq_self, Bool.and_eq_true, Bool.or_eq_true, Bool.not_eq_true, D.bl.injEq, D.int.injEq, D.lst.injEq, D.tup.injEq, exists_eq_left', exists_eq_left, exists_eq_right])
section
variable {g : Gd} {P : Program} {w : World} {K : PySem.W.Frag} {mg : Str → Option Value} {base : Heap} {CJ CFm b c sa : Addr} {cs ns : List Int} {tr : Prop}
abbrev groups_s : Stmt := topS 14
theorem groups_sc : FnScope ["size"] ["size"] (defScope groups_s) := ⟨rfl, rfl, rfl, by decide +kernel, rfl, by decide +kernel, by decide +kernel⟩
theorem groups_ok {groups_f : Addr} {groups_fd : FuncData} (groups_D : Dfn K mg "groups" "groups" groups_s ["size"] groups_f groups_fd) (T : Bltn mg)
    {parts_f : Addr} {parts_fd : FuncData} (parts_D : Dfn K mg "parts" "parts" parts_s ["group"] parts_f parts_fd) (parts_G : FnOk P w K mg base CX0 2 parts_f parts_fd ["group"] (spOf g 1 spParts)) : FnOk P w K mg base CX0 3 groups_f groups_fd ["size"] (spOf g 1 spLGroups) := by
  refine def_ok groups_D.F groups_sc rfl (fun cdv A fr s H E hr =>
    (wss_one (ws_ret (we_call (wa_cons (we_tupRg1 (we_v 0 (pv 0)) rfl (by rfl) T.tuple (by rfl) T.range) wa_nil) (fun t h => pe_call parts_G (hr.mono (by decide)) (by rfl) parts_D.m parts_D.F.kp parts_D.b .nil pass0 h))))) ?_
  rintro ds Q hl ⟨n, rfl, h0, h7, hq⟩
  walk_at "dw"
  refine ⟨rgOk h0 (by omega), ?_⟩
  rw [rgD_rgI]
  exact ⟨rgI n, rfl, gp_nd (gp_rg n), by rw [rgI_len]; omega, fun out ha => hq out (allP_G ha)⟩

abbrev _bits_s : Stmt := topS 27
theorem _bits_sc : FnScope ["group", "person"] ["group"] (defScope _bits_s) := ⟨rfl, rfl, rfl, by decide +kernel, rfl, by decide +kernel, by decide +kernel⟩
theorem _bits_ok {_bits_f : Addr} {_bits_fd : FuncData} (_bits_D : Dfn K mg "_bits" "_bits" _bits_s ["group"] _bits_f _bits_fd) (T : Bltn mg) : FnOk P w K mg base CX0 1 _bits_f _bits_fd ["group"] (spOf g 1 spBits) := by
  refine def_ok _bits_D.F _bits_sc rfl (fun cdv A fr s H E hr =>
    (wss_one (ws_ret (we_cb (war_cons (we_lc (own := [("person", 1)]) rfl _bits_sc.nd (wi_seq (we_v 0 (pv 0))) (blkOk_by (N := ["group", "person"]) (sc := defScope _bits_s) (own := [("person", 1)]) (by decide +kernel)) (fun _ => (wg_name 1 (pg_name _bits_sc.nd rfl (by first | exact Or.inl rfl | exact Or.inr rfl)))) (fun _ => wts_nil) (fun _ => (we_bin op_shl s2_IC (we_int).rd (wr_v 1 (pv 1))))).rd war_nil) sc_sum (fun t h => pe_callB (cr_sum rfl) (by rfl) T.sum (by decide +kernel) h))))) ?_
  rintro ds Q hl ⟨n, grp, rfl, hg, h7, hq⟩
  have lg := gp_len hg h7
  walk_at "dw"
  show (grp.map D.int).length < sizeLine ∧ wLc _ _ _ _ (grp.map D.int) _
  refine ⟨small_line (by simp; omega), wLc_all D.int (fun p => D.int ((1 : Int) * 2 ^ p.toNat)) grp _ (fun p hp R h => ?_) ?_⟩
  · have := hg.2 p hp
    walk_at "dw"
    exact ⟨⟨this.1, by omega, by decide⟩, h⟩
  · refine ⟨grp.map fun p => (1 : Int) * 2 ^ p.toNat, by rw [List.map_map]; rfl, ?_⟩
    rw [bt_sum hg]
    exact hq

abbrev placeable_s : Stmt := topS 26
theorem placeable_sc : FnScope ["jobs", "marked", "job", "bits", "person", "group"] ["jobs"] (defScope placeable_s) := ⟨rfl, rfl, rfl, by decide +kernel, rfl, by decide +kernel, by decide +kernel⟩
theorem placeable_ok {placeable_f : Addr} {placeable_fd : FuncData} (placeable_D : Dfn K mg "placeable" "placeable" placeable_s ["jobs"] placeable_f placeable_fd) (T : Bltn mg) (C_Jobs : ClsJ K mg CJ)
    {_bits_f : Addr} {_bits_fd : FuncData} (_bits_D : Dfn K mg "_bits" "_bits" _bits_s ["group"] _bits_f _bits_fd) (_bits_G : FnOk P w K mg base CX0 1 _bits_f _bits_fd ["group"] (spOf g 1 spBits))
    {groups_f : Addr} {groups_fd : FuncData} (groups_D : Dfn K mg "groups" "groups" groups_s ["size"] groups_f groups_fd) (groups_G : FnOk P w K mg base CX0 3 groups_f groups_fd ["size"] (spOf g 1 spLGroups)) : FnOk P w K mg base CX0 4 placeable_f placeable_fd ["jobs"] (spOf g 1 (spPlace CJ)) := by
  refine def_ok placeable_D.F placeable_sc rfl (fun cdv A fr s H E hr =>
    (wss_cons (ws_ownDisp 1 we_int we_bl (fun te h => ps_set (i := 1) placeable_sc.nd rfl (by first | exact Or.inl rfl | exact Or.inr rfl) h))
    (wss_cons (ws_for rfl (wi_seq (we_fld (wr_v 0 (pv 0)) C_Jobs.cl C_Jobs.n_jobs)) (wg_name 2 (pg_name placeable_sc.nd rfl (by first | exact Or.inl rfl | exact Or.inr rfl)))
    (wss_one (ws_for rfl (wi_seq (we_cb (war_cons (wr_v 1 (pv 1)) war_nil) sc_listK (fun t h => pe_callTy (call_listD rfl) (by rfl) T.list (by decide +kernel) h))) (wg_name 3 (pg_name placeable_sc.nd rfl (by first | exact Or.inl rfl | exact Or.inr rfl)))
    (wss_one (ws_for rfl (wi_seq (we_v 2 (pv 2))) (wg_name 4 (pg_name placeable_sc.nd rfl (by first | exact Or.inl rfl | exact Or.inr rfl)))
    (wss_one (ws_dput 1 hr.units we_bl (pv 1) (we_bin op_or s2_I (wr_v 3 (pv 3)) (we_bin op_shl s2_IC (we_int).rd (wr_v 4 (pv 4))).rd).rd)))))))
    (wss_one (ws_ret (we_lc (own := [("group", 5)]) rfl placeable_sc.nd (wi_seq (we_call (wa_cons (we_fld (wr_v 0 (pv 0)) C_Jobs.cl C_Jobs.n_size) wa_nil) (fun t h => pe_call groups_G (hr.mono (by decide)) (by rfl) groups_D.m groups_D.F.kp groups_D.b .nil pass0 h))) (blkOk_by (N := ["jobs", "marked", "job", "bits", "person", "group"]) (sc := defScope placeable_s) (own := [("group", 5)]) (by decide +kernel)) (fun _ => (wg_name 5 (pg_name placeable_sc.nd rfl (by first | exact Or.inl rfl | exact Or.inr rfl)))) (fun _ => (wts_one (wt_din hr.units (we_call (wa_cons (we_v 5 (pv 5)) wa_nil) (fun t h => pe_call _bits_G (hr.mono (by decide)) (by rfl) _bits_D.m _bits_D.F.kp _bits_D.b .nil pass0 h)).rd (wr_v 1 (pv 1))))) (fun _ => (we_v 5 (pv 5))))))))) ?_
  rintro ds Q hl ⟨n, rows, rfl, hg, hq⟩
  have h7 := hg.n7
  walk_at "dw"
  refine ⟨Sum.inl 0, rfl, ?_⟩
  refine fld_jobs ?_
  show wFor _ _ _ (rows.map tI) _
  refine wFor_inv (fun j st => ∃ ks s2 s3 s4, st = [.val (jO CJ n rows), .ow (.dK (mk ks)), s2, s3, s4, .un] ∧ Mk (rows.take j).reverse n ks) (fun _ _ _ => trivial) _ 0 _ ⟨[0], _, _, _, rfl, mk_start n⟩ ?_ ?_
  · rintro j d hj st ⟨ks, s2, s3, s4, rfl, hm⟩ K hK
    rw [Nat.zero_add] at hK hm
    obtain ⟨r, hr, rfl⟩ := row_at hj
    have gr := hg.row hr
    have lr := hg.rlen hr
    rw [take_one hr, List.reverse_append] at hK
    generalize (rows.take j).reverse = rs at hK hm
    walk_at "dw"
    rw [rdO_c]
    refine ⟨mk ks, rfl, ?_⟩
    rw [show (mk ks).map (fun kv => kD kv.1) = ks.map fun x => D.int ((x : Nat) : Int) by unfold mk; rw [List.map_map]; rfl]
    show wFor _ _ _ (ks.map fun x => D.int ((x : Nat) : Int)) _
    refine wFor_inv (fun i st => ∃ k2 s3 s4, st = [.val (jO CJ n rows), .ow (.dK (mk k2)), .val (tI r), s3, s4, .un] ∧ Md rs r n ks k2 ∧ ∀ b ∈ ks.take i, ∀ p ∈ r, b ||| 2 ^ p.toNat ∈ k2) (fun _ _ _ => trivial) _ 0 _ ⟨ks, _, _, rfl, hm.md r, fun b hb => by simp at hb⟩ ?_ ?_
    · rintro i d hi st ⟨k2, s3, s4, rfl, hd, hdn⟩ K2 hK2
      rw [Nat.zero_add] at hK2 hdn
      obtain ⟨b, hb, rfl⟩ := nat_at hi
      have mb : b ∈ ks := List.mem_of_getElem? hb
      walk_at "dw"
      show wFor _ _ _ (r.map D.int) _
      refine wFor_inv (fun l st => ∃ k3 s4, st = [.val (jO CJ n rows), .ow (.dK (mk k3)), .val (tI r), .val (.int (b : Int)), s4, .un] ∧ Md rs r n ks k3 ∧ (∀ b ∈ ks.take i, ∀ p ∈ r, b ||| 2 ^ p.toNat ∈ k3) ∧ ∀ p ∈ r.take l, b ||| 2 ^ p.toNat ∈ k3) (fun _ _ _ => trivial) _ 0 _ ⟨k2, _, rfl, hd, hdn, fun p hp => by simp at hp⟩ ?_ ?_
      · rintro l d hl st ⟨k3, s4, rfl, hd, hdn, hdl⟩ K3 hK3
        rw [Nat.zero_add] at hK3 hdl
        obtain ⟨p, hp, rfl⟩ := int_at hl
        have mp : p ∈ r := List.mem_of_getElem? hp
        have rp := gr.2 p mp
        have hlen := hd.len h7
        walk_at "dw"
        refine ⟨⟨_, rfl⟩, ⟨rp.1, by omega, by decide⟩, .inr ⟨mk k3, Sum.inl _, rfl, rfl, small_line (by unfold mk; rw [List.length_map]; omega), ?_⟩⟩
        rw [bor_int, mk_put]
        refine hK3 _ ⟨_, _, rfl, hd.step hm gr mb mp, fun b' hb' p' hp' => mem_addK.mpr (.inl (hdn b' hb' p' hp')), fun p' hp' => ?_⟩
        rw [take_one hp] at hp'
        rcases List.mem_append.mp hp' with z | z
        · exact mem_addK.mpr (.inl (hdl p' z))
        · rw [List.mem_singleton.mp z]; exact mem_addK.mpr (.inr rfl)
      · rintro st ⟨k3, s4, rfl, hd, hdn, hdl⟩
        rw [Nat.zero_add, List.length_map, List.take_length] at hdl
        refine hK2 _ ⟨_, _, _, rfl, hd, fun b' hb' p' hp' => ?_⟩
        rw [take_one hb] at hb'
        rcases List.mem_append.mp hb' with z | z
        · exact hdn b' z p' hp'
        · rw [List.mem_singleton.mp z]; exact hdl p' hp'
    · rintro st ⟨k2, s3, s4, rfl, hd, hdn⟩
      rw [Nat.zero_add, List.length_map, List.take_length] at hdn
      exact hK _ ⟨_, _, _, _, rfl, hd.done hm hdn⟩
  · rintro st ⟨ks, s2, s3, s4, rfl, hm⟩
    rw [Nat.zero_add, List.length_map, List.take_length] at hm
    walk_at "dw"
    refine fld_size ⟨n, rfl, hg.n0, h7, fun out ha => ?_⟩
    have hol := ha.len
    show (out.map tI).length < sizeLine ∧ wLc _ _ _ _ (out.map tI) _
    refine ⟨small_line (by simp; omega), wLc_map tI (HL.can rows.reverse) tI out _ (fun G hG R1 R0 h => ?_) (hq out ha)⟩
    have gG := (ha.mem G).mp hG
    walk_at "dw"
    rw [← hm.can gG] at h
    refine ⟨n, G, rfl, gG, h7, ?_⟩
    try walk_at "dw"
    rw [rdO_c]
    refine .inr ⟨mk ks, Sum.inl _, rfl, rfl, _, rfl, ?_⟩
    rw [mk_val]
    exact h

end
end K68
namespace DW
open PySem PySem.Spec PyProof.Rows L2

structure ClsF (K : PySem.W.Frag) (mg : Str → Option Value) (C : Addr) : Prop where
  cl : Cls K C
  n_size : NoAttr K C "size"
  n_crews : NoAttr K C "crews"
  n_full : NoAttr K C "full"
  n__groups : NoAttr K C "_groups"
  n__strengths : NoAttr K C "_strengths"
  mg : mg "Family" = some (.ref C)
  ins : InsT K C
  isi : PySem.W.kitOne K (.ref C) (.ref C) = some true
def gps (n : Int) : List (List Int) := acc n (n.toNat + 1)
/-- A with y in the place of x -/
def swp (n : Int) (A : List Int) (x y : Int) : List Int := (rgI n).filter fun k => (A.contains k && k != x) || k == y
structure Fam (n : Int) (cs : List (List Int)) (m : Nat) : Prop where
  n0 : 0 ≤ n
  n7 : n ≤ 7
  ord : cs.Pairwise gLe
  nd : cs.Nodup
  gp : ∀ c ∈ cs, Gp n c
  len : ∀ c ∈ cs, c.length = m
  ne : cs ≠ []
  ex : ∀ A ∈ cs, ∀ B ∈ cs, ∀ x ∈ A, x ∉ B → ∃ y ∈ B, y ∉ A ∧ swp n A x y ∈ cs
def inF (cs : List (List Int)) (P : List Int) : Bool := cs.any fun c => P.all fun x => c.contains x
def rkF (cs : List (List Int)) (P : List Int) : Nat := cs.foldr (fun c a => max (P.filter fun x => c.contains x).length a) 0
def plc (n : Int) (cs : List (List Int)) : List (List Int) := (gps n).filter (inF cs)
def famF (n : Int) (cs : List (List Int)) (m : Nat) : List (Str × D) := [("size", .int n), ("crews", tT cs), ("full", .int (m : Int)), ("_groups", tT (plc n cs)), ("_strengths", rankT (fun g => (rkF cs g : Int)) (plc n cs ++ (gps n).filter fun g => !inF cs g))]
def fO (C : Addr) (n : Int) (cs : List (List Int)) (m : Nat) : D := .obj C (famF n cs m)
def famM : List D → FQ → Prop := fun ds Qf => ∃ (n : Int) (rows : List (List Int)) (m : Nat) (cs : List (List Int)), (ds = [.int n, lT rows] ∨ ds = [.int n, tT rows]) ∧ rows.length ≤ 100 ∧ (∀ x, x ∈ cs ↔ x ∈ rows) ∧ Fam n cs m ∧ Qf (famF n cs m)
def setL (l : List (List Int)) : List (List L2.Key × D) := l.map fun g => (keyI g, .bl true)
def news (n : Int) (l : List (List Int)) (A : List Int) (x : Int) : List Int := (out n A).filter fun y => decide (swp n A x y ∈ l)
def spNew (ds : List D) (Q : RQ) : Prop := ∃ (n : Int) (l : List (List Int)) (A : List Int) (x : Int), ds = [.int n, .dT (setL l), tI A, .int x] ∧ 0 ≤ n ∧ n ≤ 7 ∧ Gp n A ∧ Q true (lI (news n l A x))
def spDist (ds : List D) (Q : RQ) : Prop := ∃ rows : List (List Int), (ds = [lT rows] ∨ ds = [tT rows]) ∧ rows.length ≤ 100000 ∧ ∀ cs : List (List Int), cs.Pairwise gLe → cs.Nodup → (∀ x, x ∈ cs ↔ x ∈ rows) → Q true (lT cs)
def spLong (ds : List D) (Q : RQ) : Prop := ∃ rows : List (List Int), ds = [lT rows] ∧ rows ≠ [] ∧ rows.length ≤ 100000 ∧ ∀ m : Nat, (∃ r ∈ rows, r.length = m) → (∀ r ∈ rows, r.length ≤ m) → Q true (lT (rows.filter fun r => decide (r.length = m)))
def spStrs (ds : List D) (Q : RQ) : Prop := ∃ (n : Int) (gs : List (List Int)) (ρ : List Int → Int), ds = [.int n, tT gs] ∧ 0 ≤ n ∧ n ≤ 7 ∧ gs.Nodup ∧ (∀ g ∈ gs, Gp n g) ∧ (∀ g ∈ gs, ρ g = (g.length : Int)) ∧
  (∀ g, Gp n g → g ∉ gs → (∃ k, k < g.length ∧ ρ (g.eraseIdx k) = ρ g) ∧ ∀ k, k < g.length → ρ (g.eraseIdx k) ≤ ρ g) ∧ Q false (rankT ρ (gs ++ (gps n).filter fun g => decide (g ∉ gs)))
def spChkGr (ds : List D) (Q : RQ) : Prop := ∃ (n : Int) (rows : List (List Int)) (m : Nat), (ds = [.int n, lT rows] ∨ ds = [.int n, tT rows]) ∧ 0 ≤ n ∧ n ≤ 7 ∧ rows ≠ [] ∧ rows.length ≤ 1000 ∧ (∀ r ∈ rows, Gp n r ∧ r.length = m) ∧ Q false .non
def spChkEx (ds : List D) (Q : RQ) : Prop := ∃ (n : Int) (cs : List (List Int)) (m : Nat), ds = [.int n, lT cs] ∧ Fam n cs m ∧ cs.length ≤ 100 ∧ Q false .non

def spNewA (ds : List D) (Q : RQ) : Prop := spNew ds Q ∨ ∃ (n : Int) (l : List (List Int)) (A : List Int) (x : Int), ds = [.int n, tT l, tI A, .int x] ∧ 0 ≤ n ∧ n ≤ 7 ∧ Gp n A ∧ (∀ r ∈ l, Gp n r) ∧ Q true (lI (news n l A x))

theorem mem_rows {x : List Int} {rows : List (List Int)} : (D.pyAll (rows.map tI)).any (fun z => PyData.eqv z (tI x).py) = rows.contains x := by
  rw [pyAll_map, List.map_map, List.any_map, Bool.eq_iff_iff, List.any_eq_true, List.contains_iff_mem]
  constructor
  · rintro ⟨r, hr, e⟩
    simp only [Function.comp, eqv_tI, decide_eq_true_eq] at e
    exact e ▸ hr
  · exact fun h => ⟨x, h, by simp [Function.comp, eqv_tI]⟩
theorem mem_lT {neg : Bool} {n : Int} {x : List Int} {rows : List (List Int)} {Q : RQ} (hx : Gp n x) (hr : ∀ r ∈ rows, Gp n r) (h7 : n ≤ 7) (q : Q false (.bl (if neg then !rows.contains x else rows.contains x))) : mMem neg (tI x) (lT rows) Q := by
  have s := sh_lst (shs_map (k := rows.length) tI rows (fun r h => sh_tI (hr r h) h7) (Nat.le_refl _))
  exact ⟨⟨(sh_tI hx h7).t, Nat.le_trans (sh_tI hx h7).p (by decide)⟩, ⟨s.t, Nat.le_trans s.p (by decide)⟩, by rw [mem_rows]; exact q⟩
theorem mem_tT {neg : Bool} {n : Int} {x : List Int} {rows : List (List Int)} {Q : RQ} (hx : Gp n x) (hr : ∀ r ∈ rows, Gp n r) (h7 : n ≤ 7) (q : Q false (.bl (if neg then !rows.contains x else rows.contains x))) : mMem neg (tI x) (tT rows) Q := by
  have s := sh_lst (shs_map (k := rows.length) tI rows (fun r h => sh_tI (hr r h) h7) (Nat.le_refl _))
  exact ⟨⟨(sh_tI hx h7).t, Nat.le_trans (sh_tI hx h7).p (by decide)⟩, ⟨s.t, Nat.le_trans s.p (by decide)⟩, by rw [mem_rows]; exact q⟩

theorem allG_gps {n : Int} (h0 : 0 ≤ n) (h7 : n ≤ 7) : AllG n (gps n) := allG_acc h0 h7
theorem sub_iff {n : Int} {P c : List Int} (hP : Gp n P) (hc : Gp n c) : P.Sublist c ↔ ∀ x ∈ P, x ∈ c :=
  ⟨fun h x hx => h.subset hx, fun h => sub_of (gp_nd (gp_rg n)) (gp_sub hP) (gp_sub hc) h⟩
theorem inF_iff {cs : List (List Int)} {P : List Int} : inF cs P = true ↔ ∃ c ∈ cs, ∀ x ∈ P, x ∈ c := by
  unfold inF
  simp only [List.any_eq_true, List.all_eq_true, List.contains_eq_mem, decide_eq_true_eq]
theorem rkF_le {cs : List (List Int)} {P : List Int} {r : Nat} (h : ∀ c ∈ cs, (P.filter fun x => c.contains x).length ≤ r) : rkF cs P ≤ r := by
  unfold rkF
  induction cs with
  | nil => exact Nat.zero_le _
  | cons c cs ih => exact Nat.max_le.mpr ⟨h c List.mem_cons_self, ih fun d hd => h d (List.mem_cons_of_mem _ hd)⟩
theorem le_rkF {cs : List (List Int)} {P c : List Int} (h : c ∈ cs) : (P.filter fun x => c.contains x).length ≤ rkF cs P := by
  unfold rkF
  induction cs with
  | nil => cases h
  | cons d cs ih =>
    rcases List.mem_cons.mp h with rfl | h
    · exact Nat.le_max_left _ _
    · exact Nat.le_trans (ih h) (Nat.le_max_right _ _)
theorem rkF_at {cs : List (List Int)} (P : List Int) (h : cs ≠ []) : ∃ c ∈ cs, (P.filter fun x => c.contains x).length = rkF cs P := by
  unfold rkF
  induction cs with
  | nil => exact absurd rfl h
  | cons d cs ih =>
    show ∃ c ∈ d :: cs, _ = max (P.filter fun x => d.contains x).length (cs.foldr (fun c a => max (P.filter fun x => c.contains x).length a) 0)
    by_cases e : cs = []
    · subst e; exact ⟨d, List.mem_cons_self, by simp⟩
    · obtain ⟨c, hc, h2⟩ := ih e
      rcases Nat.le_total (P.filter fun x => d.contains x).length (cs.foldr (fun c a => max (P.filter fun x => c.contains x).length a) 0) with z | z
      · exact ⟨c, List.mem_cons_of_mem _ hc, by rw [h2, Nat.max_eq_right z]⟩
      · exact ⟨d, List.mem_cons_self, by rw [Nat.max_eq_left z]⟩
theorem rkF_in {cs : List (List Int)} {P : List Int} (h : inF cs P = true) : rkF cs P = P.length := by
  obtain ⟨c, hc, h⟩ := inF_iff.mp h
  refine Nat.le_antisymm (rkF_le fun c _ => List.length_filter_le _ _) ?_
  have e : (P.filter fun x => c.contains x) = P := List.filter_eq_self.mpr fun x hx => by simpa using h x hx
  have := le_rkF (P := P) hc
  rwa [e] at this
theorem rkF_out {cs : List (List Int)} {P : List Int} (hc : cs ≠ []) (nd : P.Nodup) (h : inF cs P = false) : (∃ k, k < P.length ∧ rkF cs (P.eraseIdx k) = rkF cs P) ∧ ∀ k, k < P.length → rkF cs (P.eraseIdx k) ≤ rkF cs P := by
  have up : ∀ k, k < P.length → rkF cs (P.eraseIdx k) ≤ rkF cs P := fun k _ => rkF_le fun c hc => Nat.le_trans ((List.eraseIdx_sublist P k).filter _).length_le (le_rkF hc)
  refine ⟨?_, up⟩
  obtain ⟨c, hcc, hr⟩ := rkF_at P hc
  have : ∃ x ∈ P, x ∉ c := by
    refine Classical.byContradiction fun z => ?_
    have : inF cs P = true := inF_iff.mpr ⟨c, hcc, fun x hx => Classical.byContradiction fun y => z ⟨x, hx, y⟩⟩
    rw [h] at this; cases this
  obtain ⟨x, hx, nx⟩ := this
  obtain ⟨k, hk, e⟩ := List.mem_iff_getElem.mp hx
  refine ⟨k, hk, Nat.le_antisymm (up k hk) ?_⟩
  rw [← hr]
  refine Nat.le_trans (Nat.le_of_eq ?_) (le_rkF hcc)
  congr 1
  have e1 : P.getD k 0 = x := by simp [List.getD_eq_getElem?_getD, hk, e]
  have es : P.eraseIdx k = P.filter fun z => z != x := by
    rw [HL.sub_filter (List.eraseIdx_sublist P k) nd]
    refine List.filter_congr fun z hz => ?_
    rw [Bool.eq_iff_iff, List.contains_iff_mem, HL.mem_eraseIdx_ne nd hk, e1]
    simp [hz]
  rw [es, List.filter_filter]
  refine List.filter_congr fun z _ => ?_
  by_cases q : z = x
  · subst q; simp [nx]
  · simp [q]
theorem mem_swp {n : Int} {A : List Int} {x y k : Int} (hA : Gp n A) (hy : 0 ≤ y ∧ y < n) : k ∈ swp n A x y ↔ (k ∈ A ∧ k ≠ x) ∨ k = y := by
  unfold swp
  rw [List.mem_filter, mem_rgI]
  simp only [Bool.or_eq_true, Bool.and_eq_true, List.contains_eq_mem, decide_eq_true_eq, beq_iff_eq, bne_iff_ne, ne_eq]
  constructor
  · exact fun h => h.2
  · rintro (⟨a, b⟩ | rfl)
    · exact ⟨hA.2 k a, .inl ⟨a, b⟩⟩
    · exact ⟨hy, .inr rfl⟩
theorem gp_swp (n : Int) (A : List Int) (x y : Int) : Gp n (swp n A x y) := (gp_rg n).filter _
/-! ### dicts that comprehensions make -/
theorem wDc_T {bn : WPG} {tt : WPT} {tk tv : WP} {s0 : Sx} (f : List Int → D) : ∀ (l done : List (List Int)) (Q : Ct → Prop), (done ++ l).Nodup → (done ++ l).length ≤ 1000000 →
    (∀ x ∈ l, ∀ R : Ct → Prop, ∀ acc : Ct, putC acc (tI x) (f x) R → bn (tI x) s0 fun s => tt s fun c => if c = true then tk s fun _ y => tv s fun _ z => putC acc y z R else R acc) →
    Q (.dT ((done ++ l).map fun g => (keyI g, f g))) → wDc bn tt tk tv s0 (l.map tI) (.dT (done.map fun g => (keyI g, f g))) Q
  | [], done, Q, _, _, _, h => by simpa [wDc] using h
  | x :: l, done, Q, nd, hl, hs, h => by
    rw [List.map_cons, wDc]
    have nx : x ∉ done := fun z => by
      rw [List.nodup_append] at nd
      exact nd.2.2 x z x (by simp) rfl
    refine hs x List.mem_cons_self (fun acc' => wDc bn tt tk tv s0 (l.map tI) acc' Q) _ ⟨keyI x, keyD_I x, small_line (by rw [List.length_map]; rw [List.length_append] at hl; omega), ?_⟩
    rw [putT (f := f) nx]
    exact wDc_T f l (done ++ [x]) Q (by simpa using nd) (by simpa using hl) (fun y hy => hs y (List.mem_cons_of_mem _ hy)) (by simpa using h)
def addG (l : List (List Int)) (x : List Int) : List (List Int) := if x ∈ l then l else l ++ [x]
theorem set_put (l : List (List Int)) (x : List Int) : putD (setL l) (keyI x) (.bl true) = setL (addG l x) := by
  unfold addG
  by_cases h : x ∈ l
  · rw [if_pos h]
    unfold putD
    have e : ((setL l).any fun kv => decide (kv.1 = keyI x)) = true := by
      rw [List.any_eq_true]
      exact ⟨(keyI x, .bl true), List.mem_map.mpr ⟨x, h, rfl⟩, by simp⟩
    rw [e, if_pos rfl]
    unfold setL
    rw [List.map_map]
    refine List.map_congr_left fun y _ => ?_
    simp only [Function.comp]
    split <;> rfl
  · rw [if_neg h]
    exact putT (f := fun _ => .bl true) h
theorem mem_fold {x : List Int} : ∀ {l done : List (List Int)}, x ∈ l.foldl addG done ↔ x ∈ done ∨ x ∈ l
  | [], done => by simp
  | y :: l, done => by
    rw [List.foldl_cons, mem_fold, List.mem_cons]
    have : x ∈ addG done y ↔ x ∈ done ∨ x = y := by
      unfold addG
      split
      · rename_i h
        exact ⟨.inl, fun z => z.elim id fun z => z ▸ h⟩
      · simp
    rw [this]
    constructor
    · rintro ((a | a) | a)
      · exact .inl a
      · exact .inr (.inl a)
      · exact .inr (.inr a)
    · rintro (a | a | a)
      · exact .inl (.inl a)
      · exact .inl (.inr a)
      · exact .inr a
theorem nd_fold : ∀ {l done : List (List Int)}, done.Nodup → (l.foldl addG done).Nodup
  | [], done, h => h
  | y :: l, done, h => by
    rw [List.foldl_cons]
    refine nd_fold ?_
    unfold addG
    split
    · exact h
    · rename_i n
      rw [List.nodup_append]
      exact ⟨h, by simp, fun a ha b hb e => n (by rw [List.mem_singleton.mp hb] at e; exact e ▸ ha)⟩
theorem len_addG (l : List (List Int)) (x : List Int) : (addG l x).length ≤ l.length + 1 := by
  unfold addG
  split
  · omega
  · simp
theorem wDc_set {bn : WPG} {tt : WPT} {tk tv : WP} {s0 : Sx} : ∀ (l done : List (List Int)) (Q : Ct → Prop), done.length + l.length ≤ 1000000 →
    (∀ x ∈ l, ∀ R : Ct → Prop, ∀ acc : Ct, putC acc (tI x) (.bl true) R → bn (tI x) s0 fun s => tt s fun c => if c = true then tk s fun _ y => tv s fun _ z => putC acc y z R else R acc) →
    Q (.dT (setL (l.foldl addG done))) → wDc bn tt tk tv s0 (l.map tI) (.dT (setL done)) Q
  | [], done, Q, _, _, h => h
  | x :: l, done, Q, hl, hs, h => by
    rw [List.map_cons, wDc]
    rw [List.length_cons] at hl
    refine hs x List.mem_cons_self (fun acc' => wDc bn tt tk tv s0 (l.map tI) acc' Q) _ ⟨keyI x, keyD_I x, small_line (by unfold setL; rw [List.length_map]; omega), ?_⟩
    rw [set_put]
    have := len_addG done x
    exact wDc_set l (addG done x) Q (by omega) (fun y hy => hs y (List.mem_cons_of_mem _ hy)) h
def dI (xs : List Int) (f : Int → D) : List (L2.Key × D) := xs.map fun x => (Sum.inl x, f x)
theorem putI {f : Int → D} {x : Int} {l : List Int} (h : x ∉ l) : putD (dI l f) (Sum.inl x) (f x) = dI (l ++ [x]) f := by
  unfold putD
  have : ((dI l f).any fun kv => decide (kv.1 = Sum.inl x)) = false := by
    rw [List.any_eq_false]
    intro p hp
    obtain ⟨y, hy, rfl⟩ := List.mem_map.mp hp
    simp only [decide_eq_true_eq]
    exact fun e => h (by injection e with e; exact e ▸ hy)
  rw [this]
  simp [dI]
theorem valI {f : Int → D} {x : Int} : ∀ {l : List Int}, x ∈ l → valD (dI l f) (Sum.inl x) = some (f x)
  | y :: l, h => by
    unfold dI valD
    rw [List.map_cons, List.find?_cons]
    by_cases e : y = x
    · subst e; simp
    · have : decide ((Sum.inl y : L2.Key) = Sum.inl x) = false := decide_eq_false fun z => e (by injection z)
      simp only [this]
      rcases List.mem_cons.mp h with z | z
      · exact absurd z.symm e
      · exact valI z
theorem wDc_I {bn : WPG} {tt : WPT} {tk tv : WP} {s0 : Sx} (f : Int → D) : ∀ (l done : List Int) (Q : Ct → Prop), (done ++ l).Nodup → (done ++ l).length ≤ 1000000 →
    (∀ x ∈ l, ∀ R : Ct → Prop, ∀ acc : Ct, putC acc (.int x) (f x) R → bn (.int x) s0 fun s => tt s fun c => if c = true then tk s fun _ y => tv s fun _ z => putC acc y z R else R acc) →
    Q (.dK (dI (done ++ l) f)) → wDc bn tt tk tv s0 (l.map D.int) (.dK (dI done f)) Q
  | [], done, Q, _, _, _, h => by simpa [wDc] using h
  | x :: l, done, Q, nd, hl, hs, h => by
    rw [List.map_cons, wDc]
    have nx : x ∉ done := fun z => by
      rw [List.nodup_append] at nd
      exact nd.2.2 x z x (by simp) rfl
    refine hs x List.mem_cons_self (fun acc' => wDc bn tt tk tv s0 (l.map D.int) acc' Q) _ ⟨Sum.inl x, rfl, small_line (by unfold dI; rw [List.length_map]; rw [List.length_append] at hl; omega), ?_⟩
    rw [putI nx]
    exact wDc_I f l (done ++ [x]) Q (by simpa using nd) (by simpa using hl) (fun y hy => hs y (List.mem_cons_of_mem _ hy)) (by simpa using h)
/-- rows that are a list or a tuple -/
theorem rows_or {dr : D} {rows : List (List Int)} (h : dr = lT rows ∨ dr = tT rows) : (∀ R : List D → Prop, R (rows.map tI) → mSeq dr R) ∧ (∀ R : List D → Prop, R (enumD (rows.map tI)) → mEnum dr R) ∧ (∀ Q : RQ, Q false (.int (rows.length : Int)) → mLen [dr] Q) ∧
    (∀ (k : Nat) (r : List Int) (Q : RQ), rows[k]? = some r → Q false (tI r) → mIx dr (.int (k : Int)) Q) := by
  rcases h with rfl | rfl
  · exact ⟨fun R h => h, fun R h => h, fun Q h => len_lT h, fun k r Q h q => ix_lT h q⟩
  · refine ⟨fun R h => h, fun R h => h, fun Q h => ?_, fun k r Q h q => ix_tT h q⟩
    show Q false (.int ((rows.map tI).length : Int))
    rw [List.length_map]; exact h
end DW
namespace K68
open PySem PySem.Spec PyProof.Rows L2 DW
local macro_rules | `(tactic| walk_at "dw") => `(tactic| simp only [rdS_0, rdS_s, rdO_0, rdO_1, rdO_s, startS, endD, mAdd_i, mAdd_b, mAdd_l, mAdd_t, mI_i, mIC_i, mB_i, mLen_l, mLen_t, mList_l, mList_t, mTuple_l, mTuple_t, mInt1_i, mInt1_b, mAbs_i, mIx_l, mIx_t, mSl_l, mSl_t, mSeq_l, mSeq_t, mEnum_l, mEnum_t, mFld_o, mExt_l, mRev_l, mRepr_1, put_f, put_t, frz_0, frz_1, frz_2, frz_s, wpS_0, wpS_1, DW.putAll,
  List.map_cons, List.map_nil, List.cons_append, List.nil_append, List.length_cons, List.length_nil, List.replicate_succ, List.replicate_zero, List.set_cons_zero, List.set_cons_succ, List.set_nil, Nat.reduceAdd, Nat.reduceSub, Nat.zero_add, Bool.not_true, Bool.not_false, if_true, if_false, Bool.false_eq_true, and_true, true_and, decide_eq_true_eq, eq_self, Bool.and_eq_true, Bool.or_eq_true, Bool.not_eq_true, D.bl.injEq, D.int.injEq, D.lst.injEq, D.tup.injEq, exists_eq_left', exists_eq_left, exists_eq_right])
section
variable {g : Gd} {P : Program} {w : World} {K : PySem.W.Frag} {mg : Str → Option Value} {base : Heap} {CJ CFm b c sa : Addr} {cs ns : List Int} {tr : Prop}
abbrev newcomers_s : Stmt := topS 34
theorem newcomers_sc : FnScope ["size", "known", "crew", "person", "rest", "newcomer"] ["size", "known", "crew", "person"] (defScope newcomers_s) := ⟨rfl, rfl, rfl, by decide +kernel, rfl, by decide +kernel, by decide +kernel⟩
theorem newcomers_ok {newcomers_f : Addr} {newcomers_fd : FuncData} (newcomers_D : Dfn K mg "newcomers" "newcomers" newcomers_s ["size", "known", "crew", "person"] newcomers_f newcomers_fd) (T : Bltn mg)
    {apart_f : Addr} {apart_fd : FuncData} (apart_D : Dfn K mg "apart" "apart" apart_s ["one", "other"] apart_f apart_fd) (apart_G : FnOk P w K mg base CX0 1 apart_f apart_fd ["one", "other"] (spOf g 2 spApart))
    {others_f : Addr} {others_fd : FuncData} (others_D : Dfn K mg "others" "others" others_s ["size", "group"] others_f others_fd) (others_G : FnOk P w K mg base CX0 2 others_f others_fd ["size", "group"] (spOf g 2 spOthers))
    {together_f : Addr} {together_fd : FuncData} (together_D : Dfn K mg "together" "together" together_s ["one", "other"] together_f together_fd) (together_G : FnOk P w K mg base CX0 1 together_f together_fd ["one", "other"] (spOf g 2 spTogether)) : FnOk P w K mg base CX0 3 newcomers_f newcomers_fd ["size", "known", "crew", "person"] (spOf g 4 spNew) := by
  refine def_ok newcomers_D.F newcomers_sc rfl (fun cdv A fr s H E hr =>
    (wss_cons (ws_set 4 (we_call (wa_cons (we_v 2 (pv 2)) (wa_cons (we_tup (wa_cons (we_v 3 (pv 3)) wa_nil)) wa_nil)) (fun t h => pe_call apart_G (hr.mono (by decide)) (by rfl) apart_D.m apart_D.F.kp apart_D.b .nil pass0 h)) (fun te h => ps_set (i := 4) newcomers_sc.nd rfl (by first | exact Or.inl rfl | exact Or.inr rfl) h))
    (wss_one (ws_ret (we_lc (own := [("newcomer", 5)]) rfl newcomers_sc.nd (wi_seq (we_call (wa_cons (we_v 0 (pv 0)) (wa_cons (we_v 2 (pv 2)) wa_nil)) (fun t h => pe_call others_G (hr.mono (by decide)) (by rfl) others_D.m others_D.F.kp others_D.b .nil pass0 h))) (blkOk_by (N := ["size", "known", "crew", "person", "rest", "newcomer"]) (sc := defScope newcomers_s) (own := [("newcomer", 5)]) (by decide +kernel)) (fun _ => (wg_name 5 (pg_name newcomers_sc.nd rfl (by first | exact Or.inl rfl | exact Or.inr rfl)))) (fun _ => (wts_one (wt_din hr.units (we_call (wa_cons (we_v 4 (pv 4)) (wa_cons (we_tup (wa_cons (we_v 5 (pv 5)) wa_nil)) wa_nil)) (fun t h => pe_call together_G (hr.mono (by decide)) (by rfl) together_D.m together_D.F.kp together_D.b .nil pass0 h)).rd (wr_v 1 (pv 1))))) (fun _ => (we_v 5 (pv 5)))))))) ?_
  rintro ds Q hl ⟨n, l, A, x, rfl, h0, h7, hA, hq⟩
  have lA := gp_len hA h7
  walk_at "dw"
  refine ⟨le_line (by decide), A, [x], rfl, by omega, ?_⟩
  try walk_at "dw"
  refine ⟨n, A, rfl, h0, h7, ?_⟩
  try walk_at "dw"
  have go : Gp n (out n A) := (gp_rg n).filter _
  have lo := gp_len go h7
  show ((out n A).map D.int).length < sizeLine ∧ wLc _ _ _ _ ((out n A).map D.int) _
  refine ⟨small_line (by simp; omega), wLc_map D.int (fun y => decide (swp n A x y ∈ l)) D.int (out n A) _ (fun y hy R1 R0 h => ?_) hq⟩
  have hy2 : 0 ≤ y ∧ y < n := go.2 y hy
  walk_at "dw"
  have lf := List.length_filter_le (fun k => ![x].contains k) A
  refine ⟨le_line (by decide), A.filter (fun k => ![x].contains k), [y], rfl, by rw [List.length_singleton]; omega, fun ms hm hk => ?_⟩
  have e : ms = swp n A x y := rise_uniq hm (gp_swp n A x y).1 fun k => by
    rw [hk, mem_swp hA hy2, List.mem_filter, List.mem_singleton]
    simp
  subst e
  exact .inl ⟨_, keyI _, rfl, keyD_I _, _, rfl, by rw [show (valD (setL l) (keyI (swp n A x y))).isSome = _ from valT_some (f := fun _ => .bl true)]; exact h⟩

abbrev _distinct_s : Stmt := topS 35
theorem _distinct_sc : FnScope ["rows", "group"] ["rows"] (defScope _distinct_s) := ⟨rfl, rfl, rfl, by decide +kernel, rfl, by decide +kernel, by decide +kernel⟩
theorem _distinct_ok {_distinct_f : Addr} {_distinct_fd : FuncData} (_distinct_D : Dfn K mg "_distinct" "_distinct" _distinct_s ["rows"] _distinct_f _distinct_fd) (T : Bltn mg)
    {in_order_f : Addr} {in_order_fd : FuncData} (in_order_D : Dfn K mg "in_order" "in_order" in_order_s ["rows"] in_order_f in_order_fd) (in_order_G : FnOk P w K mg base CX0 1 in_order_f in_order_fd ["rows"] (spOf g 1 spInOrder)) : FnOk P w K mg base CX0 2 _distinct_f _distinct_fd ["rows"] (spOf g 1 spDist) := by
  refine def_ok _distinct_D.F _distinct_sc rfl (fun cdv A fr s H E hr =>
    (wss_one (ws_ret (we_call (wa_cons (we_cb (war_cons (we_dc (own := [("group", 1)]) true hr.units rfl _distinct_sc.nd (wi_seq (we_v 0 (pv 0))) (blkOk_by (N := ["rows", "group"]) (sc := defScope _distinct_s) (own := [("group", 1)]) (by decide +kernel)) (fun _ => (wg_name 1 (pg_name _distinct_sc.nd rfl (by first | exact Or.inl rfl | exact Or.inr rfl)))) (fun _ => wts_nil) (fun _ => (we_v 1 (pv 1))) (fun _ => we_bl)).rd war_nil) sc_listT (fun t h => pe_callTy (call_list_dT rfl) (by rfl) T.list (by decide +kernel) h)) wa_nil) (fun t h => pe_call in_order_G (hr.mono (by decide)) (by rfl) in_order_D.m in_order_D.F.kp in_order_D.b .nil pass0 h))))) ?_
  rintro ds Q hl ⟨rows, hds, hlen, hq⟩
  obtain ⟨dr, rfl, hdr⟩ : ∃ dr, ds = [dr] ∧ (dr = lT rows ∨ dr = tT rows) := by
    rcases hds with rfl | rfl
    · exact ⟨_, rfl, .inl rfl⟩
    · exact ⟨_, rfl, .inr rfl⟩
  walk_at "dw"
  refine (rows_or hdr).1 _ ?_
  show wDc _ _ _ _ _ (rows.map tI) (.dT (setL [])) _
  refine wDc_set rows [] _ (by simp; omega) (fun x hx R acc h => ?_) ?_
  · walk_at "dw"
    exact h
  · have nd : (rows.foldl addG []).Nodup := nd_fold (by simp)
    refine ⟨_, rfl, ?_⟩
    rw [show (setL (rows.foldl addG [])).map (fun kv => keyD kv.1) = (rows.foldl addG []).map tI by unfold setL; rw [List.map_map]; exact List.map_congr_left fun g _ => (keyD_I g).symm]
    refine ⟨rows.foldl addG [], rfl, fun ou hp ho => hq ou ho (hp.nodup_iff.mpr nd) fun x => ?_⟩
    rw [hp.mem_iff, mem_fold]; simp

abbrev _longest_s : Stmt := topS 36
theorem _longest_sc : FnScope ["rows", "most", "group"] ["rows"] (defScope _longest_s) := ⟨rfl, rfl, rfl, by decide +kernel, rfl, by decide +kernel, by decide +kernel⟩
theorem _longest_ok {_longest_f : Addr} {_longest_fd : FuncData} (_longest_D : Dfn K mg "_longest" "_longest" _longest_s ["rows"] _longest_f _longest_fd) (T : Bltn mg) : FnOk P w K mg base CX0 1 _longest_f _longest_fd ["rows"] (spOf g 1 spLong) := by
  refine def_ok _longest_D.F _longest_sc rfl (fun cdv A fr s H E hr =>
    (wss_cons (ws_set 1 (we_cb (war_cons (we_lc (own := [("group", 2)]) rfl _longest_sc.nd (wi_seq (we_v 0 (pv 0))) (blkOk_by (N := ["rows", "most", "group"]) (sc := defScope _longest_s) (own := [("group", 2)]) (by decide +kernel)) (fun _ => (wg_name 2 (pg_name _longest_sc.nd rfl (by first | exact Or.inl rfl | exact Or.inr rfl)))) (fun _ => wts_nil) (fun _ => (we_cb (war_cons (wr_v 2 (pv 2)) war_nil) sc_len (fun t h => pe_callB call_len_seq (by rfl) T.len (by decide +kernel) h)))).rd war_nil) sc_max (fun t h => pe_callB (cr_max rfl) (by rfl) T.max (by decide +kernel) h)) (fun te h => ps_set (i := 1) _longest_sc.nd rfl (by first | exact Or.inl rfl | exact Or.inr rfl) h))
    (wss_one (ws_ret (we_lc (own := [("group", 2)]) rfl _longest_sc.nd (wi_seq (we_v 0 (pv 0))) (blkOk_by (N := ["rows", "most", "group"]) (sc := defScope _longest_s) (own := [("group", 2)]) (by decide +kernel)) (fun _ => (wg_name 2 (pg_name _longest_sc.nd rfl (by first | exact Or.inl rfl | exact Or.inr rfl)))) (fun _ => (wts_one (wt_cmp (op_eqF hr.units) s2_eqF (we_cb (war_cons (wr_v 2 (pv 2)) war_nil) sc_len (fun t h => pe_callB call_len_seq (by rfl) T.len (by decide +kernel) h)).rd (wr_v 1 (pv 1)) (nomark _)))) (fun _ => (we_v 2 (pv 2)))))))) ?_
  rintro ds Q hl ⟨rows, rfl, hne, hlen, hq⟩
  walk_at "dw"
  show (rows.map tI).length < sizeLine ∧ wLc _ _ _ _ (rows.map tI) _
  refine ⟨small_line (by simp; omega), wLc_all tI (fun r => D.int (r.length : Int)) rows _ (fun r hr R h => ?_) ?_⟩
  · walk_at "dw"
    exact len_tI h
  · refine ⟨rows.map fun r => (r.length : Int), by rw [List.map_map]; rfl, by rw [List.length_map]; exact List.length_pos_iff.mpr hne, fun mm hm hle => ?_⟩
    obtain ⟨r0, h0, rfl⟩ := List.mem_map.mp hm
    try walk_at "dw"
    show (rows.map tI).length < sizeLine ∧ wLc _ _ _ _ (rows.map tI) _
    refine ⟨small_line (by simp; omega), wLc_map tI (fun r => decide (r.length = r0.length)) tI rows _ (fun r hr R1 R0 h => ?_) (hq r0.length ⟨r0, h0, rfl⟩ fun r hr => ?_)⟩
    · walk_at "dw"
      refine len_tI (eq_int ⟨_, rfl, ?_⟩)
      have e : decide ((r.length : Int) = (r0.length : Int)) = decide (r.length = r0.length) := by rw [Bool.eq_iff_iff, decide_eq_true_eq, decide_eq_true_eq]; omega
      rw [e]; exact h
    · have := hle _ (List.mem_map.mpr ⟨r, hr, rfl⟩)
      omega

abbrev _strengths_s : Stmt := topS 37
theorem _strengths_sc : FnScope ["size", "placed", "found", "part", "group", "at"] ["size", "placed"] (defScope _strengths_s) := ⟨rfl, rfl, rfl, by decide +kernel, rfl, by decide +kernel, by decide +kernel⟩
theorem _strengths_ok {_strengths_f : Addr} {_strengths_fd : FuncData} (_strengths_D : Dfn K mg "_strengths" "_strengths" _strengths_s ["size", "placed"] _strengths_f _strengths_fd) (T : Bltn mg)
    {groups_f : Addr} {groups_fd : FuncData} (groups_D : Dfn K mg "groups" "groups" groups_s ["size"] groups_f groups_fd) (groups_G : FnOk P w K mg base CX0 3 groups_f groups_fd ["size"] (spOf g 1 spLGroups)) : FnOk P w K mg base CX0 4 _strengths_f _strengths_fd ["size", "placed"] (spOf g 2 spStrs) := by
  refine def_ok _strengths_D.F _strengths_sc rfl (fun cdv A fr s H E hr =>
    (wss_cons (ws_ownDc (own := [("part", 3)]) 2 true hr.units rfl _strengths_sc.nd (wi_seq (we_v 1 (pv 1))) (blkOk_by (N := ["size", "placed", "found", "part", "group", "at"]) (sc := defScope _strengths_s) (own := [("part", 3)]) (by decide +kernel)) (fun _ => (wg_name 3 (pg_name _strengths_sc.nd rfl (by first | exact Or.inl rfl | exact Or.inr rfl)))) (fun _ => wts_nil) (fun _ => (we_v 3 (pv 3))) (fun _ => (we_cb (war_cons (wr_v 3 (pv 3)) war_nil) sc_len (fun t h => pe_callB call_len_seq (by rfl) T.len (by decide +kernel) h))) (fun te h => ps_set (i := 2) _strengths_sc.nd rfl (by first | exact Or.inl rfl | exact Or.inr rfl) h))
    (wss_cons (ws_for rfl (wi_seq (we_call (wa_cons (we_v 0 (pv 0)) wa_nil) (fun t h => pe_call groups_G (hr.mono (by decide)) (by rfl) groups_D.m groups_D.F.kp groups_D.b .nil pass0 h))) (wg_name 4 (pg_name _strengths_sc.nd rfl (by first | exact Or.inl rfl | exact Or.inr rfl)))
    (wss_one (ws_if (wt_dnotin hr.units (wr_v 4 (pv 4)) (wr_v 2 (pv 2))) (wss_one (ws_dput 2 hr.units (we_cb (war_cons (we_lc (own := [("at", 5)]) rfl _strengths_sc.nd (wi_rg1 (we_cb (war_cons (wr_v 4 (pv 4)) war_nil) sc_len (fun t h => pe_callB call_len_seq (by rfl) T.len (by decide +kernel) h)) (by rfl) T.range) (blkOk_by (N := ["size", "placed", "found", "part", "group", "at"]) (sc := defScope _strengths_s) (own := [("at", 5)]) (by decide +kernel)) (fun _ => (wg_name 5 (pg_name _strengths_sc.nd rfl (by first | exact Or.inl rfl | exact Or.inr rfl)))) (fun _ => wts_nil) (fun _ => (we_dget hr.units (wr_v 2 (pv 2)) (we_bin op_addA s2_add (we_slice (wr_v 4 (pv 4)) wo_none (wo_some (we_v 5 (pv 5)))).rd (we_slice (wr_v 4 (pv 4)) (wo_some (we_bin op_addA s2_add (wr_v 5 (pv 5)) (we_int).rd)) wo_none).rd).rd))).rd war_nil) sc_max (fun t h => pe_callB (cr_max rfl) (by rfl) T.max (by decide +kernel) h)) (pv 2) (wr_v 4 (pv 4)))) wss_nil)))
    (wss_one (ws_retC 2 (pv 2)))))) ?_
  rintro ds Q hl ⟨n, gs, ρ, rfl, h0, h7, nd, hgp, hin, hout, hq⟩
  have ha := allG_gps h0 h7
  have hol := ha.len
  have gl : gs.length ≤ 128 := by
    have := nd.length_le_of_subset fun g hg => (ha.mem g).mpr (hgp g hg)
    omega
  walk_at "dw"
  show wDc _ _ _ _ _ (gs.map tI) (.dT (([] : List (List Int)).map fun g => (keyI g, .int (ρ g)))) _
  refine wDc_T (fun g => .int (ρ g)) gs [] _ (by simpa using nd) (by simp; omega) (fun x hx R acc h => ?_) ?_
  · walk_at "dw"
    refine len_tI ?_
    rw [← hin x hx]
    exact h
  rw [List.nil_append]
  try walk_at "dw"
  refine ⟨n, rfl, h0, h7, fun ou ho => ?_⟩
  have e := allG_uniq ho ha
  subst e
  show wFor _ _ _ ((gps n).map tI) _
  refine wFor_inv (fun i st => ∃ s4 s5, st = [.val (.int n), .val (tT gs), .ow (.dT ((gs ++ ((gps n).take i).filter fun g => decide (g ∉ gs)).map fun g => (keyI g, .int (ρ g)))), .un, s4, s5]) (fun _ _ _ => trivial) _ 0 _ ⟨_, _, by simp; exact ⟨rfl, rfl⟩⟩ ?_ ?_
  · rintro i d hi st ⟨s4, s5, rfl⟩ K hK
    rw [Nat.zero_add] at hK ⊢
    obtain ⟨x, hx, rfl⟩ := row_at hi
    have mx := List.mem_of_getElem? hx
    have gx := (ha.mem x).mp mx
    have lx := gp_len gx h7
    have lt := (List.take_sublist i (gps n)).length_le
    have lf := List.length_filter_le (fun g => decide (g ∉ gs)) ((gps n).take i)
    have nx : x ∉ (gps n).take i := nd_take ha.nd hx
    rw [take_one hx, List.filter_append] at hK
    walk_at "dw"
    rw [rdO_c]
    refine .inl ⟨_, keyI x, rfl, keyD_I x, _, rfl, ?_⟩
    rw [valT_some]
    by_cases c : x ∈ gs
    · have e1 : decide (x ∈ gs ++ ((gps n).take i).filter fun g => decide (g ∉ gs)) = true := by simp [c]
      rw [e1]
      simp only [if_true, Bool.not_true, Bool.false_eq_true, if_false]
      have e2 : [x].filter (fun g => decide (g ∉ gs)) = [] := by simp [c]
      rw [e2, List.append_nil] at hK
      exact hK _ ⟨_, _, rfl⟩
    · have nx2 : x ∉ gs ++ ((gps n).take i).filter fun g => decide (g ∉ gs) := fun z => by
        rcases List.mem_append.mp z with z | z
        · exact c z
        · exact nx (List.mem_filter.mp z).1
      have e1 : decide (x ∈ gs ++ ((gps n).take i).filter fun g => decide (g ∉ gs)) = false := decide_eq_false nx2
      rw [e1]
      simp only [if_true, Bool.not_false, if_true]
      have e2 : [x].filter (fun g => decide (g ∉ gs)) = [x] := by simp [c]
      rw [e2, ← List.append_assoc] at hK
      obtain ⟨⟨k0, hk0, hr0⟩, hup⟩ := hout x gx c
      have mem : ∀ k, k < x.length → x.eraseIdx k ∈ gs ++ ((gps n).take i).filter fun g => decide (g ∉ gs) := by
        intro k hk
        have hb := before ha.ord hx ((ha.mem _).mpr (gp_erase gx k)) (by rw [List.length_eraseIdx, if_pos hk]; omega)
        by_cases q : x.eraseIdx k ∈ gs
        · exact List.mem_append_left _ q
        · exact List.mem_append_right _ (List.mem_filter.mpr ⟨hb, by simpa using q⟩)
      try walk_at "dw"
      refine ⟨⟨_, rfl⟩, len_tI ⟨_, rfl, rg62_nat (by omega) (by omega), small_line (by simp; omega), ?_⟩⟩
      rw [Int.toNat_natCast]
      refine wLc_all (fun k : Nat => D.int (0 + (k : Int))) (fun k => D.int (ρ (x.eraseIdx k))) (List.range x.length) _ (fun k hk R h => ?_) ?_
      · rw [List.mem_range] at hk
        simp only [Int.zero_add]
        walk_at "dw"
        rw [rdO_c]
        exact cuts_tI (Q := fun _ y => mDGet _ y fun _ d => R d) (by omega) (dget_T (f := fun g => .int (ρ g)) (mem k hk) h)
      · refine ⟨(List.range x.length).map fun k => ρ (x.eraseIdx k), by rw [List.map_map]; rfl, by rw [List.length_map, List.length_range]; omega, fun m hm hle => ?_⟩
        have em : m = ρ x := by
          obtain ⟨k, hk, rfl⟩ := List.mem_map.mp hm
          rw [List.mem_range] at hk
          have a : ρ (x.eraseIdx k) ≤ ρ x := hup k hk
          have b : ρ (x.eraseIdx k0) ≤ ρ (x.eraseIdx k) := hle (ρ (x.eraseIdx k0)) (List.mem_map.mpr ⟨k0, List.mem_range.mpr hk0, rfl⟩)
          show ρ (x.eraseIdx k) = ρ x
          omega
        rw [em]
        refine .inl ⟨_, keyI x, rfl, keyD_I x, small_line (by rw [List.length_map, List.length_append]; omega), ?_⟩
        rw [putT (f := fun g => .int (ρ g)) nx2]
        exact hK _ ⟨_, _, rfl⟩
  · rintro st ⟨s4, s5, rfl⟩
    rw [Nat.zero_add, List.length_map, List.take_length]
    exact ⟨_, rfl, hq⟩

abbrev _check_groups_s : Stmt := topS 32
theorem _check_groups_sc : FnScope ["size", "crews", "at", "crew"] ["size", "crews"] (defScope _check_groups_s) := ⟨rfl, rfl, rfl, by decide +kernel, rfl, by decide +kernel, by decide +kernel⟩
theorem _check_groups_ok {_check_groups_f : Addr} {_check_groups_fd : FuncData} (_check_groups_D : Dfn K mg "_check_groups" "_check_groups" _check_groups_s ["size", "crews"] _check_groups_f _check_groups_fd) (T : Bltn mg)
    {is_group_f : Addr} {is_group_fd : FuncData} (is_group_D : Dfn K mg "is_group" "is_group" is_group_s ["size", "thing"] is_group_f is_group_fd) (is_group_G : FnOk P w K mg base CX0 2 is_group_f is_group_fd ["size", "thing"] (spOf g 2 spIsGroup)) : FnOk P w K mg base CX0 3 _check_groups_f _check_groups_fd ["size", "crews"] (spOf g 2 spChkGr) := by
  refine def_ok _check_groups_D.F _check_groups_sc rfl (fun cdv A fr s H E hr =>
    (wss_cons (ws_for rfl (wi_enum (we_v 1 (pv 1)) (by rfl) T.enumerate) (wg_tup [2, 3] rfl (pg_tup rfl (pgs_cons (pg_name (i := 2) _check_groups_sc.nd rfl (by first | exact Or.inl rfl | exact Or.inr rfl)) (pgs_cons (pg_name (i := 3) _check_groups_sc.nd rfl (by first | exact Or.inl rfl | exact Or.inr rfl)) pgs_nil))))
    (wss_one (ws_if (wt_not (wt_val (we_call (wa_cons (we_v 0 (pv 0)) (wa_cons (we_v 3 (pv 3)) wa_nil)) (fun t h => pe_call is_group_G (hr.mono (by decide)) (by rfl) is_group_D.m is_group_D.F.kp is_group_D.b .nil pass0 h)))) (wss_one ws_never) wss_nil)))
    (wss_cons (ws_if (wt_cmp (op_eqF hr.units) s2_eqF (we_cb (war_cons (wr_v 1 (pv 1)) war_nil) sc_len (fun t h => pe_callB call_len_seq (by rfl) T.len (by decide +kernel) h)).rd (we_int).rd (nomark _)) (wss_one ws_never) wss_nil)
    (wss_one (ws_for rfl (wi_enum (we_v 1 (pv 1)) (by rfl) T.enumerate) (wg_tup [2, 3] rfl (pg_tup rfl (pgs_cons (pg_name (i := 2) _check_groups_sc.nd rfl (by first | exact Or.inl rfl | exact Or.inr rfl)) (pgs_cons (pg_name (i := 3) _check_groups_sc.nd rfl (by first | exact Or.inl rfl | exact Or.inr rfl)) pgs_nil))))
    (wss_one (ws_if (wt_cmp (op_neF hr.units) s2_neF (we_cb (war_cons (wr_v 3 (pv 3)) war_nil) sc_len (fun t h => pe_callB call_len_seq (by rfl) T.len (by decide +kernel) h)).rd (we_cb (war_cons (we_ix ix_seq s2_ix (wr_v 1 (pv 1)) (we_int).rd).rd war_nil) sc_len (fun t h => pe_callB call_len_seq (by rfl) T.len (by decide +kernel) h)).rd (nomark _)) (wss_one ws_never) wss_nil))))))) ?_
  rintro ds Q hl ⟨n, rows, m, hds, h0, h7, hne, hlen, hg, hq⟩
  obtain ⟨dr, rfl, hdr⟩ : ∃ dr, ds = [.int n, dr] ∧ (dr = lT rows ∨ dr = tT rows) := by
    rcases hds with rfl | rfl
    · exact ⟨_, rfl, .inl rfl⟩
    · exact ⟨_, rfl, .inr rfl⟩
  obtain ⟨_, hen, hle, hix⟩ := rows_or hdr
  have hpos := List.length_pos_iff.mpr hne
  walk_at "dw"
  refine hen _ ?_
  refine wFor_inv (fun _ st => ∃ s2 s3, st = [.val (.int n), .val dr, s2, s3]) (fun _ _ _ => trivial) _ 0 _ ⟨_, _, rfl⟩ ?_ ?_
  · rintro i d hi st ⟨s2, s3, rfl⟩ K hK
    obtain ⟨y, hy, rfl⟩ := enumD_get hi
    obtain ⟨r, hr, rfl⟩ := row_at hy
    refine ⟨_, rfl, rfl, ?_⟩
    simp only [DW.putAll]
    walk_at "dw"
    refine ⟨_, _, rfl, plain_ints r, ?_⟩
    rw [isGroup_gp (hg r (List.mem_of_getElem? hr)).1]
    exact ⟨_, rfl, hK _ ⟨_, _, rfl⟩⟩
  · rintro st ⟨s2, s3, rfl⟩
    walk_at "dw"
    refine hle _ (eq_int ⟨_, rfl, ?_⟩)
    rw [if_neg (by simp; intro z; rw [z] at hpos; simp at hpos)]
    try walk_at "dw"
    refine hen _ ?_
    refine wFor_inv (fun _ st => ∃ s2 s3, st = [.val (.int n), .val dr, s2, s3]) (fun _ _ _ => trivial) _ 0 _ ⟨_, _, rfl⟩ ?_ ?_
    · rintro i d hi st ⟨s2, s3, rfl⟩ K hK
      obtain ⟨y, hy, rfl⟩ := enumD_get hi
      obtain ⟨r, hr, rfl⟩ := row_at hy
      refine ⟨_, rfl, rfl, ?_⟩
      simp only [DW.putAll]
      walk_at "dw"
      have h0r : rows[0]? = some rows[0] := List.getElem?_eq_getElem hpos
      refine len_tI (hix 0 _ _ h0r (len_tI (ne_int ⟨_, rfl, ?_⟩)))
      have e1 := (hg r (List.mem_of_getElem? hr)).2
      have e2 := (hg rows[0] (List.getElem_mem hpos)).2
      rw [if_neg (by rw [e1, e2]; simp)]
      exact hK _ ⟨_, _, rfl⟩
    · rintro st ⟨s2, s3, rfl⟩
      exact hq

abbrev _check_exchanges_s : Stmt := topS 33
theorem _check_exchanges_sc : FnScope ["size", "crews", "known", "crew", "one", "fitting", "member", "other", "person", "newcomer"] ["size", "crews"] (defScope _check_exchanges_s) := ⟨rfl, rfl, rfl, by decide +kernel, rfl, by decide +kernel, by decide +kernel⟩
theorem _check_exchanges_ok {_check_exchanges_f : Addr} {_check_exchanges_fd : FuncData} (_check_exchanges_D : Dfn K mg "_check_exchanges" "_check_exchanges" _check_exchanges_s ["size", "crews"] _check_exchanges_f _check_exchanges_fd) (T : Bltn mg)
    {apart_f : Addr} {apart_fd : FuncData} (apart_D : Dfn K mg "apart" "apart" apart_s ["one", "other"] apart_f apart_fd) (apart_G : FnOk P w K mg base CX0 1 apart_f apart_fd ["one", "other"] (spOf g 2 spApart))
    {newcomers_f : Addr} {newcomers_fd : FuncData} (newcomers_D : Dfn K mg "newcomers" "newcomers" newcomers_s ["size", "known", "crew", "person"] newcomers_f newcomers_fd) (newcomers_G : FnOk P w K mg base CX0 3 newcomers_f newcomers_fd ["size", "known", "crew", "person"] (spOf g 4 spNew)) : FnOk P w K mg base CX0 4 _check_exchanges_f _check_exchanges_fd ["size", "crews"] (spOf g 2 spChkEx) := by
  refine def_ok _check_exchanges_D.F _check_exchanges_sc rfl (fun cdv A fr s H E hr =>
    (wss_cons (ws_set 2 (we_dc (own := [("crew", 3)]) true hr.units rfl _check_exchanges_sc.nd (wi_seq (we_v 1 (pv 1))) (blkOk_by (N := ["size", "crews", "known", "crew", "one", "fitting", "member", "other", "person", "newcomer"]) (sc := defScope _check_exchanges_s) (own := [("crew", 3)]) (by decide +kernel)) (fun _ => (wg_name 3 (pg_name _check_exchanges_sc.nd rfl (by first | exact Or.inl rfl | exact Or.inr rfl)))) (fun _ => wts_nil) (fun _ => (we_v 3 (pv 3))) (fun _ => we_bl)) (fun te h => ps_set (i := 2) _check_exchanges_sc.nd rfl (by first | exact Or.inl rfl | exact Or.inr rfl) h))
    (wss_one (ws_for rfl (wi_seq (we_v 1 (pv 1))) (wg_name 4 (pg_name _check_exchanges_sc.nd rfl (by first | exact Or.inl rfl | exact Or.inr rfl)))
    (wss_cons (ws_setDc (own := [("member", 6)]) 5 false hr.units rfl _check_exchanges_sc.nd rfl rfl (sw_trueD rfl rfl rfl (by decide +kernel)) (wi_seq (we_v 4 (pv 4))) (blkOk_by (N := ["size", "crews", "known", "crew", "one", "fitting", "member", "other", "person", "newcomer"]) (sc := defScope _check_exchanges_s) (own := [("member", 6)]) (by decide +kernel)) (fun _ => (wg_name 6 (pg_name _check_exchanges_sc.nd rfl (by first | exact Or.inl rfl | exact Or.inr rfl)))) (fun _ => wts_nil) (fun _ => (we_v 6 (pv 6))) (fun _ => (we_call (wa_cons (we_v 0 (pv 0)) (wa_cons (we_v 2 (pv 2)) (wa_cons (we_v 4 (pv 4)) (wa_cons (we_v 6 (pv 6)) wa_nil)))) (fun t h => pe_call newcomers_G (hr.mono (by decide)) (by rfl) newcomers_D.m newcomers_D.F.kp newcomers_D.b .nil pass0 h))))
    (wss_one (ws_for rfl (wi_seq (we_v 1 (pv 1))) (wg_name 7 (pg_name _check_exchanges_sc.nd rfl (by first | exact Or.inl rfl | exact Or.inr rfl)))
    (wss_one (ws_for rfl (wi_seq (we_call (wa_cons (we_v 4 (pv 4)) (wa_cons (we_v 7 (pv 7)) wa_nil)) (fun t h => pe_call apart_G (hr.mono (by decide)) (by rfl) apart_D.m apart_D.F.kp apart_D.b .nil pass0 h))) (wg_name 8 (pg_name _check_exchanges_sc.nd rfl (by first | exact Or.inl rfl | exact Or.inr rfl)))
    (wss_one (ws_if (wt_not (wt_val (we_cb (war_cons (we_lc (own := [("newcomer", 9)]) rfl _check_exchanges_sc.nd (wi_seq (we_dget hr.units (wr_v 5 (pv 5)) (wr_v 8 (pv 8)))) (blkOk_by (N := ["size", "crews", "known", "crew", "one", "fitting", "member", "other", "person", "newcomer"]) (sc := defScope _check_exchanges_s) (own := [("newcomer", 9)]) (by decide +kernel)) (fun _ => (wg_name 9 (pg_name _check_exchanges_sc.nd rfl (by first | exact Or.inl rfl | exact Or.inr rfl)))) (fun _ => wts_nil) (fun _ => (we_cmp op_in_seq s2_in (wr_v 9 (pv 9)) (wr_v 7 (pv 7)) (by rfl)))).rd war_nil) sc_any (fun t h => pe_callB (cr_any rfl) (by rfl) T.any (by decide +kernel) h)))) (wss_one ws_never) wss_nil))))))))))) ?_
  rintro ds Q hl ⟨n, cs, m, rfl, hF, hlen, hq⟩
  have h7 := hF.n7
  walk_at "dw"
  show wDc _ _ _ _ _ (cs.map tI) (.dT (([] : List (List Int)).map fun g => (keyI g, .bl true))) _
  refine wDc_T (fun _ => .bl true) cs [] _ (by simpa using hF.nd) (by simp; omega) (fun x hx R acc h => ?_) ?_
  · walk_at "dw"
    exact h
  rw [List.nil_append]
  try walk_at "dw"
  show wFor _ _ _ (cs.map tI) _
  refine wFor_inv (fun _ st => ∃ s3 s4 s5 s6 s7 s8 s9, st = [.val (.int n), .val (lT cs), .val (.dT (setL cs)), s3, s4, s5, s6, s7, s8, s9]) (fun _ _ _ => trivial) _ 0 _ ⟨_, _, _, _, _, _, _, rfl⟩ ?_ ?_
  · rintro i d hi st ⟨s3, s4, s5, s6, s7, s8, s9, rfl⟩ K hK
    obtain ⟨A, hA, rfl⟩ := row_at hi
    have mA := List.mem_of_getElem? hA
    have gA := hF.gp A mA
    have lA := gp_len gA h7
    walk_at "dw"
    show wDc _ _ _ _ _ (A.map D.int) (.dK (dI [] fun x => lI (news n cs A x))) _
    refine wDc_I (fun x => lI (news n cs A x)) A [] _ (by simpa using gp_nd gA) (by simp; omega) (fun x hx R acc h => ?_) ?_
    · walk_at "dw"
      exact ⟨n, cs, A, x, rfl, hF.n0, h7, gA, h⟩
    rw [List.nil_append]
    try walk_at "dw"
    show wFor _ _ _ (cs.map tI) _
    refine wFor_inv (fun _ st => ∃ s3 s6 s7 s8 s9, st = [.val (.int n), .val (lT cs), .val (.dT (setL cs)), s3, .val (tI A), .val (.dK (dI A fun x => lI (news n cs A x))), s6, s7, s8, s9]) (fun _ _ _ => trivial) _ 0 _ ⟨_, _, _, _, _, rfl⟩ ?_ ?_
    · rintro j d hj st ⟨s3, s6, s7, s8, s9, rfl⟩ K2 hK2
      obtain ⟨B, hB, rfl⟩ := row_at hj
      have mB := List.mem_of_getElem? hB
      walk_at "dw"
      refine ⟨A, B, rfl, by omega, ?_⟩
      show wFor _ _ _ ((A.filter fun x => !B.contains x).map D.int) _
      refine wFor_inv (fun _ st => ∃ s3 s6 s8 s9, st = [.val (.int n), .val (lT cs), .val (.dT (setL cs)), s3, .val (tI A), .val (.dK (dI A fun x => lI (news n cs A x))), s6, .val (tI B), s8, s9]) (fun _ _ _ => trivial) _ 0 _ ⟨_, _, _, _, rfl⟩ ?_ ?_
      · rintro k d hk st ⟨s3, s6, s8, s9, rfl⟩ K3 hK3
        obtain ⟨x, hx, rfl⟩ := int_at hk
        obtain ⟨xA, xB⟩ := List.mem_filter.mp (List.mem_of_getElem? hx)
        walk_at "dw"
        refine .inr ⟨_, Sum.inl x, _, rfl, rfl, valI xA, ?_⟩
        have ln : (news n cs A x).length ≤ 7 := by
          have h1 := List.length_filter_le (fun y => decide (swp n A x y ∈ cs)) (out n A)
          have h2 := gp_len (show Gp n (out n A) from (gp_rg n).filter _) h7
          unfold news
          omega
        show ((news n cs A x).map D.int).length < sizeLine ∧ wLc _ _ _ _ ((news n cs A x).map D.int) _
        refine ⟨small_line (by simp; omega), wLc_all D.int (fun y => D.bl (B.contains y)) (news n cs A x) _ (fun y hy R h => ?_) ?_⟩
        · walk_at "dw"
          exact in_tI h
        · refine ⟨(news n cs A x).map fun y => B.contains y, by rw [List.map_map]; rfl, _, rfl, ?_⟩
          have any : ((news n cs A x).map fun y => B.contains y).any id = true := by
            obtain ⟨y, yB, yA, hs⟩ := hF.ex A mA B mB x xA (by simpa using xB)
            rw [List.any_map, List.any_eq_true]
            refine ⟨y, List.mem_filter.mpr ⟨?_, decide_eq_true hs⟩, by simpa using yB⟩
            unfold out
            rw [List.mem_filter, mem_rgI]
            exact ⟨(hF.gp B mB).2 y yB, by simpa using yA⟩
          rw [any]
          simp only [Bool.not_true, Bool.false_eq_true, if_false]
          exact hK3 _ ⟨_, _, _, _, rfl⟩
      · rintro st ⟨s3, s6, s8, s9, rfl⟩
        exact hK2 _ ⟨_, _, _, _, _, rfl⟩
    · rintro st ⟨s3, s6, s7, s8, s9, rfl⟩
      exact hK _ ⟨_, _, _, _, _, _, _, rfl⟩
  · rintro st ⟨s3, s4, s5, s6, s7, s8, s9, rfl⟩
    exact hq

end
end K68
namespace DW
open PySem PySem.Spec PyProof.Rows L2

theorem plain_rows (rows : List (List Int)) : (lT rows).plain = true ∧ (tT rows).plain = true := ⟨rfl, rfl⟩
theorem cs_uniq {a b : List (List Int)} (ha : a.Pairwise gLe) (na : a.Nodup) (hb : b.Pairwise gLe) (nb : b.Nodup) (h : ∀ x, x ∈ a ↔ x ∈ b) : a = b := ord_uniq ha hb ((List.perm_ext_iff_of_nodup na nb).mpr h)
inductive Fa2 {α β : Type} (P : α → β → Prop) : List α → List β → Prop
  | nil : Fa2 P [] []
  | cons {x : α} {y : β} {xs : List α} {ys : List β} : P x y → Fa2 P xs ys → Fa2 P (x :: xs) (y :: ys)
theorem wLc2_rel {bn bn1 : WPG} {tt1 : WPT} {wi1 : WPI} {te : WP} {js1 : List Nat} {s0 : Sx} (P : List Int → List (List Int) → Prop) : ∀ (l : List (List Int)) (Q : List D → Prop),
    (∀ x ∈ l, ∀ R : List D → Prop, (∀ ys, P x ys → R (ys.map tI)) → bn (tI x) s0 fun s => wi1 s fun es => es.length ≤ 1000 ∧ nown js1 s ∧ wLc bn1 tt1 te (wipeS s js1) es R) →
    (∀ yss, Fa2 P l yss → Q (yss.flatten.map tI)) → wLc2 bn (fun _ Q => Q true) wi1 bn1 tt1 te js1 s0 (l.map tI) Q
  | [], Q, _, h => h [] .nil
  | x :: l, Q, hs, h => by
    rw [List.map_cons, wLc2]
    simp only [if_true]
    refine hs x List.mem_cons_self (fun ys => wLc2 bn (fun _ Q => Q true) wi1 bn1 tt1 te js1 s0 (l.map tI) fun zs => Q (ys ++ zs)) fun ys hP => ?_
    refine wLc2_rel P l _ (fun y hy => hs y (List.mem_cons_of_mem _ hy)) fun yss h' => ?_
    have := h (ys :: yss) (.cons hP h')
    rwa [List.flatten_cons, List.map_append] at this
theorem fa_parts : ∀ {l : List (List Int)} {yss : List (List (List Int))}, Fa2 AllP l yss → (∀ P, P ∈ yss.flatten ↔ ∃ c ∈ l, P.Sublist c) ∧ yss.flatten.length ≤ 128 * l.length
  | _, _, .nil => ⟨fun P => by simp, by simp⟩
  | _, _, .cons (x := x) (y := y) (xs := l) h r => by
    obtain ⟨a, b⟩ := fa_parts r
    refine ⟨fun P => ?_, ?_⟩
    · rw [List.flatten_cons, List.mem_append, h.mem, a]
      constructor
      · rintro (z | ⟨c, hc, z⟩)
        · exact ⟨x, List.mem_cons_self, z⟩
        · exact ⟨c, List.mem_cons_of_mem _ hc, z⟩
      · rintro ⟨c, hc, z⟩
        rcases List.mem_cons.mp hc with rfl | hc
        · exact .inl z
        · exact .inr ⟨c, hc, z⟩
    · rw [List.flatten_cons, List.length_append, List.length_cons]
      have := h.len
      omega
theorem mem_plc {n : Int} {cs : List (List Int)} {m : Nat} (hF : Fam n cs m) {P : List Int} : P ∈ plc n cs ↔ ∃ c ∈ cs, P.Sublist c := by
  have ha := allG_gps hF.n0 hF.n7
  unfold plc
  rw [List.mem_filter, ha.mem, inF_iff]
  constructor
  · rintro ⟨gP, c, hc, h⟩
    exact ⟨c, hc, (sub_iff gP (hF.gp c hc)).mpr h⟩
  · rintro ⟨c, hc, h⟩
    have gP := (hF.gp c hc).sub h
    exact ⟨gP, c, hc, (sub_iff gP (hF.gp c hc)).mp h⟩
theorem plc_ord {n : Int} (cs : List (List Int)) (h0 : 0 ≤ n) (h7 : n ≤ 7) : (plc n cs).Pairwise gLe ∧ (plc n cs).Nodup := by
  have ha := allG_gps h0 h7
  exact ⟨ha.ord.sublist List.filter_sublist, ha.nd.sublist List.filter_sublist⟩
end DW
namespace K68
open PySem PySem.Spec PyProof.Rows L2 DW
local macro_rules | `(tactic| walk_at "dw") => `(tactic| simp only [rdS_0, rdS_s, rdO_0, rdO_1, rdO_s, startS, endD, mAdd_i, mAdd_b, mAdd_l, mAdd_t, mI_i, mIC_i, mB_i, mLen_l, mLen_t, mList_l, mList_t, mTuple_l, mTuple_t, mInt1_i, mInt1_b, mAbs_i, mIx_l, mIx_t, mSl_l, mSl_t, mSeq_l, mSeq_t, mEnum_l, mEnum_t, mFld_o, mExt_l, mRev_l, mRepr_1, put_f, put_t, frz_0, frz_1, frz_2, frz_s, wpS_0, wpS_1, DW.putAll,
  List.map_cons, List.map_nil, List.cons_append, List.nil_append, List.length_cons, List.length_nil, List.replicate_succ, List.replicate_zero, List.set_cons_zero, List.set_cons_succ, List.set_nil, Nat.reduceAdd, Nat.reduceSub, Nat.zero_add, Bool.not_true, Bool.not_false, if_true, if_false, Bool.false_eq_true, and_true, true_and, decide_eq_true_eq, eq_self, Bool.and_eq_true, Bool.or_eq_true, Bool.not_eq_true, D.bl.injEq, D.int.injEq, D.lst.injEq, D.tup.injEq, exists_eq_left', exists_eq_left, exists_eq_right])
section
variable {g : Gd} {P : Program} {w : World} {K : PySem.W.Frag} {mg : Str → Option Value} {base : Heap} {CJ CFm b c sa : Addr} {cs ns : List Int} {tr : Prop}
abbrev Family_init_s : Stmt := inClass (topS 31) 0
theorem Family_init_sc : FnScope ["self", "size", "crews", "found", "crew", "part"] ["self", "size", "crews"] (defScope Family_init_s) := ⟨rfl, rfl, rfl, by decide +kernel, rfl, by decide +kernel, by decide +kernel⟩
theorem Family_init_ok {Family_init_f : Addr} {Family_init_fd : FuncData} (Family_init_D : IniN K CFm "Family.__init__" Family_init_s ["self", "size", "crews"] Family_init_f Family_init_fd) (T : Bltn mg) (C_Family : ClsF K mg CFm) {t_LIMIT : Tok} (N_LIMIT : mg "LIMIT" = some (.int 7 t_LIMIT)) {t_MOST_CREWS : Tok} (N_MOST_CREWS : mg "MOST_CREWS" = some (.int 100 t_MOST_CREWS))
    {_check_exchanges_f : Addr} {_check_exchanges_fd : FuncData} (_check_exchanges_D : Dfn K mg "_check_exchanges" "_check_exchanges" _check_exchanges_s ["size", "crews"] _check_exchanges_f _check_exchanges_fd) (_check_exchanges_H : ∀ g : Gd, FnOk P w K mg base CX0 4 _check_exchanges_f _check_exchanges_fd ["size", "crews"] (spOf g 2 spChkEx))
    {_check_groups_f : Addr} {_check_groups_fd : FuncData} (_check_groups_D : Dfn K mg "_check_groups" "_check_groups" _check_groups_s ["size", "crews"] _check_groups_f _check_groups_fd) (_check_groups_H : ∀ g : Gd, FnOk P w K mg base CX0 3 _check_groups_f _check_groups_fd ["size", "crews"] (spOf g 2 spChkGr))
    {_distinct_f : Addr} {_distinct_fd : FuncData} (_distinct_D : Dfn K mg "_distinct" "_distinct" _distinct_s ["rows"] _distinct_f _distinct_fd) (_distinct_H : ∀ g : Gd, FnOk P w K mg base CX0 2 _distinct_f _distinct_fd ["rows"] (spOf g 1 spDist))
    {_strengths_f : Addr} {_strengths_fd : FuncData} (_strengths_D : Dfn K mg "_strengths" "_strengths" _strengths_s ["size", "placed"] _strengths_f _strengths_fd) (_strengths_H : ∀ g : Gd, FnOk P w K mg base CX0 4 _strengths_f _strengths_fd ["size", "placed"] (spOf g 2 spStrs))
    {is_count_f : Addr} {is_count_fd : FuncData} (is_count_D : Dfn K mg "is_count" "is_count" is_count_s ["thing", "limit"] is_count_f is_count_fd) (is_count_H : ∀ g : Gd, FnOk P w K mg base CX0 2 is_count_f is_count_fd ["thing", "limit"] (spOf g 2 spIsCount))
    {is_row_f : Addr} {is_row_fd : FuncData} (is_row_D : Dfn K mg "is_row" "is_row" is_row_s ["thing", "limit"] is_row_f is_row_fd) (is_row_H : ∀ g : Gd, FnOk P w K mg base CX0 1 is_row_f is_row_fd ["thing", "limit"] (spOf g 2 spIsRow))
    {parts_f : Addr} {parts_fd : FuncData} (parts_D : Dfn K mg "parts" "parts" parts_s ["group"] parts_f parts_fd) (parts_H : ∀ g : Gd, FnOk P w K mg base CX0 2 parts_f parts_fd ["group"] (spOf g 1 spParts)) : FnOk P w K mg base CX0 5 Family_init_f Family_init_fd ["self", "size", "crews"] (spIni g CFm 2 (famM)) := by
  refine ini_ok Family_init_D.F Family_init_sc rfl (fun x dx cdv A fr s H E hr =>
    (wsi_cons (fun fv => (ws_if (wt_not (wt_val (we_call (wa_cons (we_v 1 (pv 1)) (wa_cons (we_gi (by rfl) N_LIMIT) wa_nil)) (fun t h => pe_call (is_count_H (gI g x CFm dx fv)) (hr.mono (by decide)) (by rfl) is_count_D.m is_count_D.F.kp is_count_D.b .nil pass0 h)))) (wss_one ws_never) wss_nil))
    (wsi_cons (fun fv => (ws_if (wt_not (wt_val (we_call (wa_cons (we_v 2 (pv 2)) (wa_cons (we_gi (by rfl) N_MOST_CREWS) wa_nil)) (fun t h => pe_call (is_row_H (gI g x CFm dx fv)) (hr.mono (by decide)) (by rfl) is_row_D.m is_row_D.F.kp is_row_D.b .nil pass0 h)))) (wss_one ws_never) wss_nil))
    (wsi_cons (fun fv => (ws_expr (we_call (wa_cons (we_v 1 (pv 1)) (wa_cons (we_v 2 (pv 2)) wa_nil)) (fun t h => pe_call (_check_groups_H (gI g x CFm dx fv)) (hr.mono (by decide)) (by rfl) _check_groups_D.m _check_groups_D.F.kp _check_groups_D.b .nil pass0 h))))
    (wsi_cons (fun fv => (ws_set 3 (we_call (wa_cons (we_v 2 (pv 2)) wa_nil) (fun t h => pe_call (_distinct_H (gI g x CFm dx fv)) (hr.mono (by decide)) (by rfl) _distinct_D.m _distinct_D.F.kp _distinct_D.b .nil pass0 h)) (fun te h => ps_set (i := 3) Family_init_sc.nd rfl (by first | exact Or.inl rfl | exact Or.inr rfl) h)))
    (wsi_cons (fun fv => (ws_expr (we_call (wa_cons (we_v 1 (pv 1)) (wa_cons (we_v 3 (pv 3)) wa_nil)) (fun t h => pe_call (_check_exchanges_H (gI g x CFm dx fv)) (hr.mono (by decide)) (by rfl) _check_exchanges_D.m _check_exchanges_D.F.kp _check_exchanges_D.b .nil pass0 h))))
    (wsi_fld (wei_of (fun fv => (we_v 1 (pv 1)))) (pv 0) C_Family.cl C_Family.n_size
    (wsi_fld (wei_of (fun fv => (we_cb (war_cons (wr_v 3 (pv 3)) war_nil) sc_tuple (fun t h => pe_callTy call_tuple_of (by rfl) T.tuple (by decide +kernel) h)))) (pv 0) C_Family.cl C_Family.n_crews
    (wsi_fld (wei_of (fun fv => (we_cb (war_cons (we_ix ix_seq s2_ix (wr_v 3 (pv 3)) (we_int).rd).rd war_nil) sc_len (fun t h => pe_callB call_len_seq (by rfl) T.len (by decide +kernel) h)))) (pv 0) C_Family.cl C_Family.n_full
    (wsi_fld (wei_of (fun fv => (we_cb (war_cons (we_call (wa_cons (we_lc2 (own := [("crew", 4), ("part", 5)]) [5] rfl Family_init_sc.nd (by decide) (wi_seq (we_v 3 (pv 3))) (blkOk_by (N := ["self", "size", "crews", "found", "crew", "part"]) (sc := defScope Family_init_s) (own := [("crew", 4), ("part", 5)]) (by decide +kernel)) (fun _ => (WG.mono (by decide) (wg_name 4 (pg_name Family_init_sc.nd rfl (by first | exact Or.inl rfl | exact Or.inr rfl))))) (fun _ => wts_nil) (fun _ => (wi_seq (we_call (wa_cons (we_v 4 (pv 4)) wa_nil) (fun t h => pe_call (parts_H (gI g x CFm dx fv)) (hr.mono (by decide)) (by rfl) parts_D.m parts_D.F.kp parts_D.b .nil pass0 h)))) (fun _ => (wg_name 5 (pg_name Family_init_sc.nd rfl (by first | exact Or.inl rfl | exact Or.inr rfl)))) (fun _ => wts_nil) (fun _ => (we_v 5 (pv 5)))) wa_nil) (fun t h => pe_call (_distinct_H (gI g x CFm dx fv)) (hr.mono (by decide)) (by rfl) _distinct_D.m _distinct_D.F.kp _distinct_D.b .nil pass0 h)).rd war_nil) sc_tuple (fun t h => pe_callTy call_tuple_of (by rfl) T.tuple (by decide +kernel) h)))) (pv 0) C_Family.cl C_Family.n__groups
    (wsi_fld (wei_call (wai_cons (wei_of (fun fv => (we_v 1 (pv 1)))) (wai_cons (wei_fld (pv 0) C_Family.cl C_Family.n__groups) wai_nil)) (fun fv t h => pe_call (_strengths_H (gI g x CFm dx fv)) (hr.mono (by decide)) (by rfl) _strengths_D.m _strengths_D.F.kp _strengths_D.b .nil pass0 h)) (pv 0) C_Family.cl C_Family.n__strengths
    wsi_nil))))))))))) ?_
  rintro x ds Qf hl ⟨n, rows, m, cs, hds, hr, hm, hF, hq⟩
  obtain ⟨dr, rfl, hdr⟩ : ∃ dr, ds = [.int n, dr] ∧ (dr = lT rows ∨ dr = tT rows) := by
    rcases hds with rfl | rfl
    · exact ⟨_, rfl, .inl rfl⟩
    · exact ⟨_, rfl, .inr rfl⟩
  clear hds hl
  have h0 := hF.n0
  have h7 := hF.n7
  have ha := allG_gps h0 h7
  have hrne : rows ≠ [] := by
    rintro rfl
    obtain ⟨c, cs', e⟩ := List.exists_cons_of_ne_nil hF.ne
    have := (hm c).mp (by rw [e]; simp)
    cases this
  have hcl : cs.length ≤ 100 := Nat.le_trans (hF.nd.length_le_of_subset fun y hy => (hm y).mp hy) hr
  have hcount : (D.int n).isCount 7 = true := by simp [D.isCount, h0, h7]
  have hrow : dr.plain = true ∧ dr.isRow 100 = true := by
    rcases hdr with rfl | rfl
    · exact ⟨rfl, by simp [lT, D.isRow]; omega⟩
    · exact ⟨rfl, by simp [tT, D.isRow]; omega⟩
  have hor : ∀ {α : Type} (f : D → α), True := fun _ => trivial
  walk_at "dw"
  refine ⟨_, _, rfl, rfl, ?_⟩
  rw [hcount]
  refine ⟨_, rfl, ?_⟩
  rw [if_neg (by simp)]
  refine ⟨_, _, rfl, hrow.1, ?_⟩
  rw [hrow.2]
  refine ⟨_, rfl, ?_⟩
  rw [if_neg (by simp)]
  refine ⟨n, rows, m, by rcases hdr with rfl | rfl; exact .inl rfl; exact .inr rfl, h0, h7, hrne, by omega, fun r hr' => ?_, ?_⟩
  · have := (hm r).mpr hr'
    exact ⟨hF.gp r this, hF.len r this⟩
  refine ⟨rows, by rcases hdr with rfl | rfl; exact .inl rfl; exact .inr rfl, by omega, fun c2 ho hn2 hmem => ?_⟩
  have e : c2 = cs := cs_uniq ho hn2 hF.ord hF.nd fun y => (hmem y).trans (hm y).symm
  subst e
  try walk_at "dw"
  refine ⟨n, c2, m, rfl, hF, hcl, ?_⟩
  refine ⟨rfl, by decide, rfl, ?_⟩
  try walk_at "dw"
  refine ⟨rfl, by decide, rfl, ?_⟩
  have htup : ∀ (l : List (List Int)) (R : RQ), R false (tT l) → mTuple [lT l] R := fun l R h => h
  refine htup _ _ ⟨rfl, by decide, rfl, ?_⟩
  obtain ⟨c0, hc0⟩ : ∃ c0, c2[0]? = some c0 := by
    cases c2 with
    | nil => exact absurd rfl hF.ne
    | cons c0 _ => exact ⟨c0, rfl⟩
  refine ix_lT (k := 0) hc0 (len_tI ?_)
  rw [hF.len c0 (List.mem_of_getElem? hc0)]
  refine ⟨rfl, by decide, rfl, ?_⟩
  show (c2.map tI).length ≤ 1000 ∧ wLc2 _ _ _ _ _ _ _ _ (c2.map tI) _
  refine ⟨by rw [List.length_map]; omega, wLc2_rel AllP c2 _ (fun c hc R h => ?_) fun yss hy => ?_⟩
  · have gc := hF.gp c hc
    walk_at "dw"
    refine ⟨c, rfl, gp_nd gc, gp_len gc h7, fun ys hys => ?_⟩
    have := hys.len
    show (ys.map tI).length ≤ 1000 ∧ nown [5] _ ∧ wLc _ _ _ _ (ys.map tI) _
    refine ⟨by rw [List.length_map]; omega, fun j hj cc e => ?_, wLc_all tI tI ys _ (fun P hP R h => ?_) (h ys hys)⟩
    · rw [List.mem_singleton.mp hj] at e
      cases e
    · walk_at "dw"
      exact h
  obtain ⟨f1, f2⟩ := fa_parts hy
  obtain ⟨po, pn⟩ := plc_ord c2 h0 h7
  refine ⟨yss.flatten, .inl rfl, by omega, fun gs ho hn3 hmem => ?_⟩
  have e : gs = plc n c2 := cs_uniq ho hn3 po pn fun P => by rw [hmem, f1, mem_plc hF]
  subst e
  refine htup _ _ ⟨rfl, by decide, rfl, rfl, _, rfl, ?_⟩
  have ip : ∀ g, Gp n g → (g ∈ plc n c2 ↔ inF c2 g = true) := fun g gg => by
    unfold plc
    rw [List.mem_filter, ha.mem]
    exact ⟨fun z => z.2, fun z => ⟨gg, z⟩⟩
  refine ⟨n, plc n c2, fun g => (rkF c2 g : Int), rfl, h0, h7, pn, fun g hg => (ha.mem g).mp (List.mem_filter.mp hg).1, fun g hg => ?_, fun g gg ng => ?_, ?_⟩
  · show ((rkF c2 g : Nat) : Int) = _
    rw [rkF_in (List.mem_filter.mp hg).2]
  · have q : inF c2 g = false := by
      cases z : inF c2 g with
      | false => rfl
      | true => exact absurd ((ip g gg).mpr z) ng
    obtain ⟨⟨k, hk, e⟩, up⟩ := rkF_out hF.ne (gp_nd gg) q
    exact ⟨⟨k, hk, by show ((rkF c2 _ : Nat) : Int) = _; rw [e]⟩, fun k hk => Int.ofNat_le.mpr (up k hk)⟩
  · have ef : (gps n).filter (fun g => decide (g ∉ plc n c2)) = (gps n).filter fun g => !inF c2 g := List.filter_congr fun g hg => by
      have := ip g ((ha.mem g).mp hg)
      cases z : inF c2 g with
      | false => rw [z] at this; simp [this]
      | true => rw [z] at this; simp [this]
    rw [ef]
    exact hq

end
end K68
namespace DW
open PySem PySem.Spec PyProof.Rows L2
end DW
namespace HL

/-- augmentation: a shorter placeable group can be led on by a member of a longer one -/
theorem aug {rs : List (List Int)} {W I J : List Int} (nW : W.Nodup) (hI : I.Sublist W) (hJ : J.Sublist W) (cI : can rs I = true) (cJ : can rs J = true) (lt : I.length < J.length) :
    ∃ y ∈ J, y ∉ I ∧ can rs (W.filter fun k => I.contains k || k == y) = true := by
  refine Classical.byContradiction fun hno => ?_
  have no : ∀ y ∈ J, y ∉ I → can rs (W.filter fun k => I.contains k || k == y) = false := by
    intro y hy ny
    cases z : can rs (W.filter fun k => I.contains k || k == y) with
    | false => rfl
    | true => exact absurd ⟨y, hy, ny, z⟩ hno
  have nI := nW.sublist hI
  have nJ := nW.sublist hJ
  have key : ∀ Y : List Int, Y.Nodup → (∀ y ∈ Y, y ∈ J ∧ y ∉ I) → ∃ p : Int → Bool, (∀ k ∈ W, p k = true → k ∈ I ∨ k ∈ Y) ∧ (Y.length : Int) ≤ short rs (W.filter p) := by
    intro Y
    induction Y with
    | nil =>
      intro _ _
      refine ⟨fun _ => false, (fun k _ h => nomatch h), ?_⟩
      have : W.filter (fun _ => false) = [] := List.filter_eq_nil_iff.mpr fun _ _ h => nomatch h
      rw [this, short_nil]; exact Int.le_refl _
    | cons y Y ih =>
      intro nY hY
      obtain ⟨nyY, nY'⟩ := List.nodup_cons.mp nY
      obtain ⟨p, hp, hs⟩ := ih nY' fun z hz => hY z (List.mem_cons_of_mem _ hz)
      obtain ⟨yJ, yI⟩ := hY y List.mem_cons_self
      obtain ⟨Q, hQ, hq⟩ := not_can (nW.sublist List.filter_sublist) (no y yJ yI)
      have QW : Q.Sublist W := hQ.trans List.filter_sublist
      have eQ := sub_filter QW nW
      have inQ : ∀ k ∈ Q, k ∈ I ∨ k = y := fun k hk => by
        have := (List.mem_filter.mp (hQ.subset hk)).2
        simpa using this
      refine ⟨fun k => p k || Q.contains k, fun k hk h => ?_, ?_⟩
      · rcases Bool.or_eq_true _ _ |>.mp h with h | h
        · exact (hp k hk h).imp id (List.mem_cons_of_mem _)
        · rcases inQ k (by simpa using h) with z | rfl
          · exact .inl z
          · exact .inr List.mem_cons_self
      · have sm := submod rs W p (fun k => Q.contains k)
        rw [← eQ] at sm
        have low : short rs (W.filter fun k => p k && Q.contains k) ≤ 0 := by
          refine ((can_iff nI).mp cI).le _ ?_
          rw [sub_filter hI nW]
          have e : (W.filter fun k => p k && Q.contains k) = (W.filter fun x => I.contains x).filter fun k => p k && Q.contains k := by
            rw [List.filter_filter]
            refine List.filter_congr fun k hk => ?_
            cases z : (p k && Q.contains k) with
            | false => simp
            | true =>
              have z := Bool.and_eq_true _ _ |>.mp z
              have : k ∈ I := by
                rcases inQ k (by simpa using z.2) with a | rfl
                · exact a
                · rcases hp k hk z.1 with a | a
                  · exact a
                  · exact absurd a nyY
              simp [this]
          rw [e]
          exact List.filter_sublist
        rw [List.length_cons]
        omega
  obtain ⟨p, hp, hs⟩ := key (J.filter fun y => !I.contains y) (nJ.sublist List.filter_sublist) fun y hy => by
    obtain ⟨a, b⟩ := List.mem_filter.mp hy
    exact ⟨a, by simpa using b⟩
  let G := W.filter fun k => I.contains k || (J.contains k && !I.contains k)
  have nG : G.Nodup := nW.sublist List.filter_sublist
  obtain ⟨M, hM⟩ := mx_ex rs G
  have JG : J.Sublist G := by
    rw [sub_filter hJ nW]
    have e : (W.filter fun x => J.contains x) = G.filter fun x => J.contains x := by
      show _ = (W.filter _).filter _
      rw [List.filter_filter]
      refine List.filter_congr fun k _ => ?_
      cases J.contains k <;> cases I.contains k <;> rfl
    rw [e]; exact List.filter_sublist
  have a := hM.full_le nG JG cJ
  have b := hM.le (W.filter p) (by
    have e : W.filter p = G.filter p := by
      show _ = (W.filter _).filter _
      rw [List.filter_filter]
      refine List.filter_congr fun k hk => ?_
      cases z : p k with
      | false => simp
      | true =>
        rcases hp k hk z with y | y
        · simp [y]
        · have := (List.mem_filter.mp y)
          have h2 : k ∈ J := this.1
          have h3 : k ∉ I := by simpa using this.2
          simp [h2, h3]
    rw [e]; exact List.filter_sublist)
  have f1 := filter_len (fun k => I.contains k) (fun k => J.contains k && !I.contains k) W
  have f2 : (W.filter fun k => I.contains k && (J.contains k && !I.contains k)) = [] := List.filter_eq_nil_iff.mpr fun k _ h => by
    have h1 := Bool.and_eq_true _ _ |>.mp h
    have h2 := Bool.and_eq_true _ _ |>.mp h1.2
    rw [h1.1] at h2
    exact absurd h2.2 (by simp)
  have f3 : (W.filter fun k => I.contains k) = I := (sub_filter hI nW).symm
  have f4 : (W.filter fun k => J.contains k && !I.contains k) = J.filter fun y => !I.contains y := by
    conv => rhs; rw [sub_filter hJ nW]
    rw [List.filter_filter]
    refine List.filter_congr fun k _ => ?_
    cases J.contains k <;> cases I.contains k <;> rfl
  rw [f2, f3, f4] at f1
  have f5 : G.length = I.length + (J.filter fun y => !I.contains y).length := by
    rw [List.length_nil, Nat.add_zero] at f1
    exact f1
  omega
end HL
namespace DW
open PySem PySem.Spec PyProof.Rows L2

def plJ (n : Int) (rows : List (List Int)) : List (List Int) := (gps n).filter (HL.can rows.reverse)
def mrk (n : Int) (rows : List (List Int)) : Nat := (plJ n rows).foldr (fun g a => max g.length a) 0
def crw (n : Int) (rows : List (List Int)) : List (List Int) := (plJ n rows).filter fun g => decide (g.length = mrk n rows)
def spFamOf (C CF : Addr) (ds : List D) (Q : RQ) : Prop := ∃ (n : Int) (rows : List (List Int)), ds = [.rf CF, jO C n rows] ∧ good n rows ∧ Q false (fO CF n (crw n rows) (mrk n rows))
def spMayStrike (C : Addr) (ds : List D) (Q : RQ) : Prop := ∃ (n : Int) (rows : List (List Int)) (at_ : Nat) (r : List Int) (p : Int), ds = [jO C n rows, .int (at_ : Int), .int p] ∧ good n rows ∧ rows[at_]? = some r ∧
  Q false (optD ((crw n rows).find? fun G => !HL.can (rows.set at_ (del r p)).reverse G))

theorem can_rev {rows : List (List Int)} {G : List Int} (n : G.Nodup) : HL.can rows.reverse G = HL.can rows G := by
  rw [Bool.eq_iff_iff, HL.can_iff n, HL.can_iff n]
  exact ⟨fun h => by have := h.rev; rwa [List.reverse_reverse] at this, fun h => h.rev⟩
theorem max_of {l : List (List Int)} {m : Nat} (h1 : ∃ r ∈ l, r.length = m) (h2 : ∀ r ∈ l, r.length ≤ m) : l.foldr (fun g a => max g.length a) 0 = m := by
  have up : ∀ l : List (List Int), (∀ r ∈ l, r.length ≤ m) → l.foldr (fun g a => max g.length a) 0 ≤ m := by
    intro l
    induction l with
    | nil => intro _; exact Nat.zero_le _
    | cons x l ih => intro h; exact Nat.max_le.mpr ⟨h x List.mem_cons_self, ih fun r hr => h r (List.mem_cons_of_mem _ hr)⟩
  have lo : ∀ l : List (List Int), (∃ r ∈ l, r.length = m) → m ≤ l.foldr (fun g a => max g.length a) 0 := by
    intro l
    induction l with
    | nil => rintro ⟨r, hr, _⟩; cases hr
    | cons x l ih =>
      rintro ⟨r, hr, e⟩
      rcases List.mem_cons.mp hr with rfl | hr
      · rw [← e]; exact Nat.le_max_left _ _
      · exact Nat.le_trans (ih ⟨r, hr, e⟩) (Nat.le_max_right _ _)
  exact Nat.le_antisymm (up l h2) (lo l h1)
theorem max_ex : ∀ l : List (List Int), l ≠ [] → (∃ r ∈ l, r.length = l.foldr (fun g a => max g.length a) 0) ∧ ∀ r ∈ l, r.length ≤ l.foldr (fun g a => max g.length a) 0
  | [], h => absurd rfl h
  | [x], _ => ⟨⟨x, List.mem_cons_self, by simp⟩, fun r hr => by rw [List.mem_singleton.mp hr]; simp⟩
  | x :: y :: l, _ => by
    obtain ⟨⟨r, hr, e⟩, h⟩ := max_ex (y :: l) (by simp)
    have e2 : (x :: y :: l).foldr (fun g a => max g.length a) 0 = max x.length ((y :: l).foldr (fun g a => max g.length a) 0) := rfl
    rw [e2]
    refine ⟨?_, fun s hs => ?_⟩
    · rcases Nat.le_total x.length ((y :: l).foldr (fun g a => max g.length a) 0) with z | z
      · exact ⟨r, List.mem_cons_of_mem _ hr, by rw [Nat.max_eq_right z]; exact e⟩
      · exact ⟨x, List.mem_cons_self, by rw [Nat.max_eq_left z]⟩
    · rcases List.mem_cons.mp hs with rfl | hs
      · exact Nat.le_max_left _ _
      · exact Nat.le_trans (h s hs) (Nat.le_max_right _ _)
theorem nil_plJ {n : Int} (rows : List (List Int)) (h0 : 0 ≤ n) (h7 : n ≤ 7) : [] ∈ plJ n rows := by
  refine List.mem_filter.mpr ⟨((allG_gps h0 h7).mem []).mpr ⟨.nil, fun x h => nomatch h⟩, ?_⟩
  exact HL.short_can _ _ (by simp) fun Q hQ => by rw [List.sublist_nil.mp hQ, HL.short_nil]; exact Int.le_refl _
theorem crw_of {n : Int} {rows : List (List Int)} {m : Nat} (h1 : ∃ r ∈ plJ n rows, r.length = m) (h2 : ∀ r ∈ plJ n rows, r.length ≤ m) : mrk n rows = m ∧ (plJ n rows).filter (fun g => decide (g.length = m)) = crw n rows := by
  have e : mrk n rows = m := max_of h1 h2
  refine ⟨e, ?_⟩
  unfold crw
  rw [e]
theorem mem_plJ {n : Int} {rows : List (List Int)} (hg : good n rows) {P : List Int} : P ∈ plJ n rows ↔ Gp n P ∧ HL.can rows P = true := by
  unfold plJ
  rw [List.mem_filter, (allG_gps hg.n0 hg.n7).mem]
  constructor
  · rintro ⟨a, b⟩; exact ⟨a, by rwa [can_rev (gp_nd a)] at b⟩
  · rintro ⟨a, b⟩; exact ⟨a, by rwa [can_rev (gp_nd a)]⟩
theorem mrk_at {n : Int} {rows : List (List Int)} (hg : good n rows) : (∃ r ∈ plJ n rows, r.length = mrk n rows) ∧ ∀ r ∈ plJ n rows, r.length ≤ mrk n rows :=
  max_ex _ (List.ne_nil_of_mem (nil_plJ rows hg.n0 hg.n7))
theorem fam_of {n : Int} {rows : List (List Int)} (hg : good n rows) : Fam n (crw n rows) (mrk n rows) := by
  have ha := allG_gps hg.n0 hg.n7
  have mem : ∀ P, P ∈ crw n rows ↔ (Gp n P ∧ HL.can rows P = true) ∧ P.length = mrk n rows := fun P => by
    unfold crw
    rw [List.mem_filter, mem_plJ hg, decide_eq_true_eq]
  refine ⟨hg.n0, hg.n7, (ha.ord.sublist List.filter_sublist).sublist List.filter_sublist, (ha.nd.sublist List.filter_sublist).sublist List.filter_sublist, fun c hc => ((mem c).mp hc).1.1, fun c hc => ((mem c).mp hc).2, ?_, ?_⟩
  · obtain ⟨⟨r, hr, e⟩, _⟩ := mrk_at hg
    exact List.ne_nil_of_mem ((mem r).mpr ⟨(mem_plJ hg).mp hr, e⟩)
  · intro A hA B hB x xA xB
    obtain ⟨⟨gA, cA⟩, lA⟩ := (mem A).mp hA
    obtain ⟨⟨gB, cB⟩, lB⟩ := (mem B).mp hB
    have nA := gp_nd gA
    let I := A.filter fun k => k != x
    have sI : I.Sublist A := List.filter_sublist
    have lI : I.length + 1 = A.length := by
      have f1 := HL.filter_not_len (fun k => k != x) A
      have f3 : (A.filter fun k => !(k != x)).length = 1 := by
        have e : (A.filter fun k => !(k != x)) = A.filter fun k => k == x := List.filter_congr fun k _ => by simp [bne]
        rw [e]
        exact HL.one_of nA xA
      show (A.filter fun k => k != x).length + 1 = _
      omega
    obtain ⟨y, yB, yI, cy⟩ := HL.aug (gp_nd (gp_rg n)) (sI.trans (gp_sub gA)) (gp_sub gB) (HL.can_sub nA sI cA) cB (by omega)
    have yx : y ≠ x := fun e => xB (e ▸ yB)
    have yA : y ∉ A := fun h => yI (List.mem_filter.mpr ⟨h, by simpa using yx⟩)
    have es : swp n A x y = (rgI n).filter fun k => I.contains k || k == y := by
      unfold swp
      refine List.filter_congr fun k _ => ?_
      congr 1
      rw [Bool.eq_iff_iff, Bool.and_eq_true, List.contains_iff_mem, List.contains_iff_mem]
      show _ ↔ k ∈ A.filter _
      rw [List.mem_filter]
    refine ⟨y, yB, yA, (mem _).mpr ⟨⟨gp_swp n A x y, by rw [es]; exact cy⟩, ?_⟩⟩
    have gs := gp_swp n A x y
    have hy := gB.2 y yB
    have e2 : (swp n A x y).filter (fun k => k != y) = I := rise_uniq (gs.1.sublist List.filter_sublist) (gA.1.sublist sI) fun k => by
      rw [List.mem_filter, mem_swp gA hy]
      show _ ↔ k ∈ A.filter _
      rw [List.mem_filter]
      simp only [bne_iff_ne, ne_eq]
      constructor
      · rintro ⟨a | a, b⟩
        · exact a
        · exact absurd a b
      · rintro ⟨a, b⟩
        exact ⟨.inl ⟨a, b⟩, fun z => yA (z ▸ a)⟩
    have f1 := HL.filter_not_len (fun k => k != y) (swp n A x y)
    have f3 : ((swp n A x y).filter fun k => !(k != y)).length = 1 := by
      have e : ((swp n A x y).filter fun k => !(k != y)) = (swp n A x y).filter fun k => k == y := List.filter_congr fun k _ => by simp [bne]
      rw [e]
      exact HL.one_of (gp_nd gs) ((mem_swp gA hy).mpr (.inr rfl))
    rw [e2] at f1
    omega
theorem lev35 : ∀ n : Fin 8, ∀ k : Fin 8, (lev ((n.val : Nat) : Int) k.val).length ≤ 35 := by decide +kernel
theorem fam_len {n : Int} {cs : List (List Int)} {m : Nat} (hF : Fam n cs m) : cs.length ≤ 35 := by
  obtain ⟨c, hc⟩ := List.exists_mem_of_ne_nil _ hF.ne
  have hm : m ≤ 7 := by
    have := gp_len (hF.gp c hc) hF.n7
    rw [hF.len c hc] at this; exact this
  have h1 := hF.nd.length_le_of_subset (l₂ := lev n m) fun P hP => (mem_lev n m P).mpr ⟨hF.gp P hP, hF.len P hP⟩
  have h7 := hF.n7
  have h0 := hF.n0
  have h2 := lev35 ⟨n.toNat, by omega⟩ ⟨m, by omega⟩
  have e : ((n.toNat : Nat) : Int) = n := by omega
  rw [show (((⟨n.toNat, by omega⟩ : Fin 8).val : Nat) : Int) = n from e] at h2
  exact Nat.le_trans h1 h2
theorem fld_crews {CF : Addr} {n : Int} {cs : List (List Int)} {m : Nat} {Q : RQ} (h : Q false (tT cs)) : mFld "crews" CF (fO CF n cs m) Q := ⟨rfl, _, rfl, h⟩
theorem fldF_size {CF : Addr} {n : Int} {cs : List (List Int)} {m : Nat} {Q : RQ} (h : Q false (.int n)) : mFld "size" CF (fO CF n cs m) Q := ⟨rfl, _, rfl, h⟩
theorem fldF_full {CF : Addr} {n : Int} {cs : List (List Int)} {m : Nat} {Q : RQ} (h : Q false (.int (m : Int))) : mFld "full" CF (fO CF n cs m) Q := ⟨rfl, _, rfl, h⟩
theorem fldF_groups {CF : Addr} {n : Int} {cs : List (List Int)} {m : Nat} {Q : RQ} (h : Q false (tT (plc n cs))) : mFld "_groups" CF (fO CF n cs m) Q := ⟨rfl, _, rfl, h⟩
theorem fldF_strengths {CF : Addr} {n : Int} {cs : List (List Int)} {m : Nat} {Q : RQ} (h : Q false (rankT (fun g => (rkF cs g : Int)) (plc n cs ++ (gps n).filter fun g => !inF cs g))) : mFld "_strengths" CF (fO CF n cs m) Q := ⟨rfl, _, rfl, h⟩
end DW
namespace K68
open PySem PySem.Spec PyProof.Rows L2 DW
local macro_rules | `(tactic| walk_at "dw") => `(tactic| simp only [rdS_0, rdS_s, rdO_0, rdO_1, rdO_s, startS, endD, mAdd_i, mAdd_b, mAdd_l, mAdd_t, mI_i, mIC_i, mB_i, mLen_l, mLen_t, mList_l, mList_t, mTuple_l, mTuple_t, mInt1_i, mInt1_b, mAbs_i, mIx_l, mIx_t, mSl_l, mSl_t, mSeq_l, mSeq_t, mEnum_l, mEnum_t, mFld_o, mExt_l, mRev_l, mRepr_1, put_f, put_t, frz_0, frz_1, frz_2, frz_s, wpS_0, wpS_1, DW.putAll,
  List.map_cons, List.map_nil, List.cons_append, List.nil_append, List.length_cons, List.length_nil, List.replicate_succ, List.replicate_zero, List.set_cons_zero, List.set_cons_succ, List.set_nil, Nat.reduceAdd, Nat.reduceSub, Nat.zero_add, Bool.not_true, Bool.not_false, if_true, if_false, Bool.false_eq_true, and_true, true_and, decide_eq_true_eq, eq_self, Bool.and_eq_true, Bool.or_eq_true, Bool.not_eq_true, D.bl.injEq, D.int.injEq, D.lst.injEq, D.tup.injEq, exists_eq_left', exists_eq_left, exists_eq_right])
section
variable {g : Gd} {P : Program} {w : World} {K : PySem.W.Frag} {mg : Str → Option Value} {base : Heap} {CJ CFm b c sa : Addr} {cs ns : List Int} {tr : Prop}
abbrev Family_of_s : Stmt := inClass (topS 31) 1
theorem Family_of_sc : FnScope ["cls", "jobs"] ["cls", "jobs"] (defScope Family_of_s) := ⟨rfl, rfl, rfl, by decide +kernel, rfl, by decide +kernel, by decide +kernel⟩
theorem Family_of_ok {Family_of_f : Addr} {Family_of_fd : FuncData} (Family_of_D : CMd K CFm "of" "Family.of" Family_of_s ["cls", "jobs"] Family_of_f Family_of_fd) (T : Bltn mg) (C_Jobs : ClsJ K mg CJ)
    {Family_init_f : Addr} {Family_init_fd : FuncData} (Family_init_D : IniN K CFm "Family.__init__" Family_init_s ["self", "size", "crews"] Family_init_f Family_init_fd) (Family_init_G : FnOk P w K mg base CX0 5 Family_init_f Family_init_fd ["self", "size", "crews"] (spIni g CFm 2 (famM)))
    {_longest_f : Addr} {_longest_fd : FuncData} (_longest_D : Dfn K mg "_longest" "_longest" _longest_s ["rows"] _longest_f _longest_fd) (_longest_G : FnOk P w K mg base CX0 1 _longest_f _longest_fd ["rows"] (spOf g 1 spLong))
    {placeable_f : Addr} {placeable_fd : FuncData} (placeable_D : Dfn K mg "placeable" "placeable" placeable_s ["jobs"] placeable_f placeable_fd) (placeable_G : FnOk P w K mg base CX0 4 placeable_f placeable_fd ["jobs"] (spOf g 1 (spPlace CJ))) : FnOk P w K mg base CX0 7 Family_of_f Family_of_fd ["cls", "jobs"] (spOf g 2 (spFamOf CJ CFm)) := by
  refine def_ok Family_of_D.F Family_of_sc rfl (fun cdv A fr s H E hr =>
    (wss_one (ws_ret (make_L 0 (wa_cons (we_fld (wr_v 1 (pv 1)) C_Jobs.cl C_Jobs.n_size) (wa_cons (we_call (wa_cons (we_call (wa_cons (we_v 1 (pv 1)) wa_nil) (fun t h => pe_call placeable_G (hr.mono (by decide)) (by rfl) placeable_D.m placeable_D.F.kp placeable_D.b .nil pass0 h)) wa_nil) (fun t h => pe_call _longest_G (hr.mono (by decide)) (by rfl) _longest_D.m _longest_D.F.kp _longest_D.b .nil pass0 h)) wa_nil)) (fun t h => pe_makeL Family_init_D.made Family_init_G (hr.mono (by decide)) rfl (by first | exact Or.inl rfl | exact Or.inr rfl) Family_init_D.b h))))) ?_
  rintro ds Q hl ⟨n, rows, rfl, hg, hq⟩
  have ha := allG_gps hg.n0 hg.n7
  walk_at "dw"
  refine ⟨rfl, fld_size ⟨n, rows, rfl, hg, fun gs hgs => ?_⟩⟩
  have e := allG_uniq hgs ha
  subst e
  refine ⟨plJ n rows, rfl, List.ne_nil_of_mem (nil_plJ rows hg.n0 hg.n7), ?_, fun m h1 h2 => ?_⟩
  · have := List.length_filter_le (HL.can rows.reverse) (gps n)
    have := ha.len
    unfold plJ
    omega
  · obtain ⟨e1, e2⟩ := crw_of h1 h2
    rw [e2]
    have hF := fam_of hg
    have hl := fam_len hF
    exact ⟨n, crw n rows, mrk n rows, crw n rows, .inl rfl, by omega, fun _ => Iff.rfl, hF, hq⟩

end
end K68
namespace DW
open PySem PySem.Spec PyProof.Rows L2

/-- which groups are placeable -/
structure Mat (n : Int) (c : List Int → Bool) : Prop where
  n0 : 0 ≤ n
  n7 : n ≤ 7
  nil : c [] = true
  sub : ∀ P G, Gp n G → P.Sublist G → c G = true → c P = true
  aug : ∀ I J, Gp n I → Gp n J → c I = true → c J = true → I.length < J.length → ∃ y ∈ J, y ∉ I ∧ c ((rgI n).filter fun k => I.contains k || k == y) = true
def plM (n : Int) (c : List Int → Bool) : List (List Int) := (gps n).filter c
def mrM (n : Int) (c : List Int → Bool) : Nat := (plM n c).foldr (fun g a => max g.length a) 0
def crM (n : Int) (c : List Int → Bool) : List (List Int) := (plM n c).filter fun g => decide (g.length = mrM n c)
def canM (n : Int) (c : List Int → Bool) : D := .dT ((gps n).map fun g => (keyI g, .bl (c g)))
def fM (C : Addr) (n : Int) (c : List Int → Bool) : D := fO C n (crM n c) (mrM n c)
def rkM (n : Int) (c : List Int → Bool) (g : List Int) : Int := (rkF (crM n c) g : Int)
def word7 : Nat → Str
  | 0 => "size" | 1 => "crews" | 2 => "full" | 3 => "len" | 4 => "rows" | 5 => "in" | _ => "strength"
def ans7 (n : Int) (c : List Int → Bool) : Nat → D
  | 0 => .int n | 1 => tT (crM n c) | 2 => .int (mrM n c : Int) | 3 => .int ((plM n c).length : Int) | 4 => lT (plM n c) | 5 => .lst ((gps n).map fun g => .bl (c g)) | _ => .lst ((gps n).map fun g => .int (rkM n c g))
def spFSize (C : Addr) (ds : List D) (Q : RQ) : Prop := ∃ n c, ds = [fM C n c] ∧ Mat n c ∧ Q false (.int ((plM n c).length : Int))
def spFStr (C : Addr) (ds : List D) (Q : RQ) : Prop := ∃ n c g, ds = [fM C n c, tI g] ∧ Mat n c ∧ Gp n g ∧ Q false (.int (rkM n c g))
def spFHas (C : Addr) (ds : List D) (Q : RQ) : Prop := ∃ n c g, ds = [fM C n c, tI g] ∧ Mat n c ∧ Gp n g ∧ Q false (.bl (c g))
def spFEq (C : Addr) (ds : List D) (Q : RQ) : Prop := ∃ n c n' c', ds = [fM C n c, fM C n' c'] ∧ Mat n c ∧ Mat n' c' ∧ Q false (.bl (decide (n = n' ∧ crM n c = crM n' c')))
def spLCrewsM (ds : List D) (Q : RQ) : Prop := ∃ n c, ds = [.int n, canM n c] ∧ Mat n c ∧ Q true (lT (crM n c))
def spLRanksM (ds : List D) (Q : RQ) : Prop := ∃ n c, ds = [.int n, canM n c] ∧ Mat n c ∧ Q false (rankT (rkM n c) (gps n))
def spFTold (C : Addr) (ds : List D) (Q : RQ) : Prop := ∃ n c k, ds = [fM C n c, .str (word7 k), lT (gps n)] ∧ k < 7 ∧ Mat n c ∧ ∀ fr, Q fr (ans7 n c k)
def spDueM (ds : List D) (Q : RQ) : Prop := ∃ n c k, ds = [.int n, canM n c, .str (word7 k), lT (gps n)] ∧ k < 7 ∧ Mat n c ∧ ∀ fr, Q fr (ans7 n c k)
def spShows (b C : Addr) (ds : List D) (Q : RQ) : Prop := ∃ n c, ds = [.rf b, fM C n c, .int n, canM n c] ∧ Mat n c ∧ Q false (.bl true)
def uniB (k : Int) (g : List Int) : Bool := decide ((g.length : Int) ≤ k)
def spUni (C : Addr) (ds : List D) (Q : RQ) : Prop := ∃ n k : Int, ds = [.int n, .int k] ∧ 0 ≤ n ∧ n ≤ 7 ∧ 0 ≤ k ∧ k ≤ n ∧ Q false (fM C n (uniB k))
def spUniCan (ds : List D) (Q : RQ) : Prop := ∃ n k : Int, ds = [.int n, .int k] ∧ 0 ≤ n ∧ n ≤ 7 ∧ 0 ≤ k ∧ k ≤ n ∧ Q false (canM n (uniB k))

theorem mem_ins {n : Int} {I : List Int} {y k : Int} (hI : Gp n I) (hy : 0 ≤ y ∧ y < n) : k ∈ (rgI n).filter (fun k => I.contains k || k == y) ↔ k ∈ I ∨ k = y := by
  rw [List.mem_filter, mem_rgI]
  simp only [Bool.or_eq_true, List.contains_eq_mem, decide_eq_true_eq, beq_iff_eq]
  constructor
  · exact fun h => h.2
  · rintro (a | rfl)
    · exact ⟨hI.2 k a, .inl a⟩
    · exact ⟨hy, .inr rfl⟩
theorem ins_len {n : Int} {I : List Int} {y : Int} (hI : Gp n I) (hy : 0 ≤ y ∧ y < n) (h : y ∉ I) : ((rgI n).filter fun k => I.contains k || k == y).length = I.length + 1 := by
  have gs : Gp n ((rgI n).filter fun k => I.contains k || k == y) := (gp_rg n).filter _
  have f1 := HL.filter_not_len (fun k => k != y) ((rgI n).filter fun k => I.contains k || k == y)
  have f3 : (((rgI n).filter fun k => I.contains k || k == y).filter fun k => !(k != y)).length = 1 := by
    have e : (((rgI n).filter fun k => I.contains k || k == y).filter fun k => !(k != y)) = ((rgI n).filter fun k => I.contains k || k == y).filter fun k => k == y := List.filter_congr fun k _ => by simp [bne]
    rw [e]
    exact HL.one_of (gp_nd gs) ((mem_ins hI hy).mpr (.inr rfl))
  have e2 : ((rgI n).filter fun k => I.contains k || k == y).filter (fun k => k != y) = I := rise_uniq (gs.1.sublist List.filter_sublist) hI.1 fun k => by
    rw [List.mem_filter, mem_ins hI hy]
    simp only [bne_iff_ne, ne_eq]
    constructor
    · rintro ⟨a | a, b⟩
      · exact a
      · exact absurd a b
    · intro a
      exact ⟨.inl a, fun z => h (z ▸ a)⟩
  rw [e2] at f1
  omega
section
variable {n : Int} {c : List Int → Bool}
theorem Mat.mem (h : Mat n c) {P : List Int} : P ∈ plM n c ↔ Gp n P ∧ c P = true := by
  unfold plM
  rw [List.mem_filter, (allG_gps h.n0 h.n7).mem]
theorem Mat.nilm (h : Mat n c) : [] ∈ plM n c := h.mem.mpr ⟨⟨.nil, fun x z => nomatch z⟩, h.nil⟩
theorem Mat.at_ (h : Mat n c) : (∃ r ∈ plM n c, r.length = mrM n c) ∧ ∀ r ∈ plM n c, r.length ≤ mrM n c := max_ex _ (List.ne_nil_of_mem h.nilm)
theorem Mat.memc (h : Mat n c) {P : List Int} : P ∈ crM n c ↔ (Gp n P ∧ c P = true) ∧ P.length = mrM n c := by
  unfold crM
  rw [List.mem_filter, h.mem, decide_eq_true_eq]
theorem Mat.fam (h : Mat n c) : Fam n (crM n c) (mrM n c) := by
  have ha := allG_gps h.n0 h.n7
  refine ⟨h.n0, h.n7, (ha.ord.sublist List.filter_sublist).sublist List.filter_sublist, (ha.nd.sublist List.filter_sublist).sublist List.filter_sublist, fun P hP => (h.memc.mp hP).1.1, fun P hP => (h.memc.mp hP).2, ?_, ?_⟩
  · obtain ⟨⟨r, hr, e⟩, _⟩ := h.at_
    exact List.ne_nil_of_mem (h.memc.mpr ⟨h.mem.mp hr, e⟩)
  · intro A hA B hB x xA xB
    obtain ⟨⟨gA, cA⟩, lA⟩ := h.memc.mp hA
    obtain ⟨⟨gB, cB⟩, lB⟩ := h.memc.mp hB
    have nA := gp_nd gA
    have sI : (A.filter fun k => k != x).Sublist A := List.filter_sublist
    have gI : Gp n (A.filter fun k => k != x) := gA.sub sI
    have lI : (A.filter fun k => k != x).length + 1 = A.length := by
      have f1 := HL.filter_not_len (fun k => k != x) A
      have f3 : (A.filter fun k => !(k != x)).length = 1 := by
        have e : (A.filter fun k => !(k != x)) = A.filter fun k => k == x := List.filter_congr fun k _ => by simp [bne]
        rw [e]
        exact HL.one_of nA xA
      omega
    obtain ⟨y, yB, yI, cy⟩ := h.aug _ B gI gB (h.sub _ A gA sI cA) cB (by omega)
    have yx : y ≠ x := fun e => xB (e ▸ yB)
    have yA : y ∉ A := fun z => yI (List.mem_filter.mpr ⟨z, by simpa using yx⟩)
    have hy := gB.2 y yB
    have es : swp n A x y = (rgI n).filter fun k => (A.filter fun k => k != x).contains k || k == y := by
      unfold swp
      refine List.filter_congr fun k _ => ?_
      congr 1
      rw [Bool.eq_iff_iff, Bool.and_eq_true, List.contains_iff_mem, List.contains_iff_mem]
      rw [List.mem_filter]
    refine ⟨y, yB, yA, h.memc.mpr ⟨⟨gp_swp n A x y, by rw [es]; exact cy⟩, ?_⟩⟩
    rw [es, ins_len gI hy yI]
    omega
theorem Mat.inF (h : Mat n c) {g : List Int} (hg : Gp n g) : DW.inF (crM n c) g = c g := by
  rw [Bool.eq_iff_iff, inF_iff]
  constructor
  · rintro ⟨b, hb, hs⟩
    obtain ⟨⟨gb, cb⟩, _⟩ := h.memc.mp hb
    exact h.sub g b gb ((sub_iff hg gb).mpr hs) cb
  · intro hc
    have key : ∀ (k : Nat) (g : List Int), Gp n g → c g = true → mrM n c - g.length = k → ∃ b ∈ crM n c, ∀ x ∈ g, x ∈ b := by
      intro k
      induction k with
      | zero =>
        intro g hg hc hk
        have := h.at_.2 g (h.mem.mpr ⟨hg, hc⟩)
        exact ⟨g, h.memc.mpr ⟨⟨hg, hc⟩, by omega⟩, fun x hx => hx⟩
      | succ k ih =>
        intro g hg hc hk
        obtain ⟨r, hr, e⟩ := h.at_.1
        obtain ⟨gr, cr⟩ := h.mem.mp hr
        obtain ⟨y, yr, yg, cy⟩ := h.aug g r hg gr hc cr (by omega)
        have hy := gr.2 y yr
        have li := ins_len hg hy yg
        obtain ⟨b, hb, hs⟩ := ih _ ((gp_rg n).filter _) cy (by omega)
        exact ⟨b, hb, fun x hx => hs x ((mem_ins hg hy).mpr (.inl hx))⟩
    exact key _ g hg hc rfl
theorem Mat.plc (h : Mat n c) : DW.plc n (crM n c) = plM n c := by
  have ha := allG_gps h.n0 h.n7
  exact List.filter_congr fun g hg => h.inF ((ha.mem g).mp hg)
theorem Mat.rk_in (h : Mat n c) {g : List Int} (hg : Gp n g) (hc : c g = true) : rkM n c g = (g.length : Int) := by
  unfold rkM
  rw [rkF_in (by rw [h.inF hg]; exact hc)]
theorem Mat.rk_out (h : Mat n c) {g : List Int} (hg : Gp n g) (hc : c g = false) : (∃ k, k < g.length ∧ rkM n c (g.eraseIdx k) = rkM n c g) ∧ ∀ k, k < g.length → rkM n c (g.eraseIdx k) ≤ rkM n c g := by
  obtain ⟨⟨k, hk, e⟩, up⟩ := rkF_out h.fam.ne (gp_nd hg) (by rw [h.inF hg]; exact hc)
  exact ⟨⟨k, hk, by unfold rkM; rw [e]⟩, fun k hk => Int.ofNat_le.mpr (up k hk)⟩
theorem Mat.rk_iff (h : Mat n c) {g : List Int} (hg : Gp n g) : decide (rkM n c g = (g.length : Int)) = c g := by
  cases e : c g with
  | true => rw [h.rk_in hg e]; simp
  | false =>
    refine decide_eq_false fun z => ?_
    obtain ⟨b, hb, hr⟩ := rkF_at g h.fam.ne
    have z : (g.filter fun x => b.contains x).length = g.length := by
      unfold rkM at z
      rw [hr]; omega
    have all : ∀ x ∈ g, x ∈ b := by
      have := List.length_filter_eq_length_iff.mp z
      exact fun x hx => by simpa using this x hx
    have := inF_iff.mpr ⟨b, hb, all⟩
    rw [h.inF hg, e] at this
    cases this
theorem Mat.gplen (h : Mat n c) : (gps n).length ≤ 128 := (allG_gps h.n0 h.n7).len
theorem Mat.pllen (h : Mat n c) : (plM n c).length ≤ 128 := Nat.le_trans (List.length_filter_le _ _) h.gplen
theorem Mat.rk_le (h : Mat n c) {g : List Int} (hg : Gp n g) : 0 ≤ rkM n c g ∧ rkM n c g ≤ 7 := by
  unfold rkM
  have := gp_len hg h.n7
  have := rkF_le (cs := crM n c) (P := g) (r := g.length) fun c _ => List.length_filter_le _ _
  omega
theorem ans7_shw (h : Mat n c) (k : Nat) : (ans7 n c k).shw := by
  have ha := allG_gps h.n0 h.n7
  have := h.n0
  have := h.n7
  have gl : ∀ g ∈ plM n c, Gp n g := fun g hg => (h.mem.mp hg).1
  have ml := fam_len h.fam
  have m7 : mrM n c ≤ 7 := by
    obtain ⟨r, hr, e⟩ := h.at_.1
    have := gp_len (h.mem.mp hr).1 h.n7
    omega
  have pl := h.pllen
  unfold ans7
  split
  · exact (sh_int (by omega)).shw
  · exact (sh_tup (shs_map (k := 35) tI _ (fun x hx => sh_tI (h.fam.gp x hx) h.n7) ml)).shw
  · exact (sh_int (by omega)).shw
  · exact (sh_int (by omega)).shw
  · exact (sh_lst (shs_map (k := 128) tI _ (fun x hx => sh_tI (gl x hx) h.n7) pl)).shw
  · exact (sh_lst (shs_map (k := 128) (fun g => D.bl (c g)) _ (fun x hx => sh_bl) h.gplen)).shw
  · exact (sh_lst (shs_map (k := 128) (fun g => D.int (rkM n c g)) _ (fun x hx => sh_int (by have := h.rk_le ((ha.mem x).mp hx); omega)) h.gplen)).shw
end
theorem w7_shw : ∀ i : Fin 7, (D.str (word7 i.val)).tiny = true ∧ (D.str (word7 i.val)).wt ≤ 3000 ∧ (D.str (word7 i.val)).dep ≤ 60 := by decide +kernel
theorem w7_eqv : ∀ i j : Fin 7, PyData.eqv (D.str (word7 i.val)).py (D.str (word7 j.val)).py = decide (i.val = j.val) := by decide +kernel
theorem eqw {i j : Nat} {Q : RQ} (hi : i < 7) (hj : j < 7) (q : Q false (.bl (decide (i = j)))) : mEqF (.str (word7 i)) (.str (word7 j)) Q :=
  eq_data (w7_shw ⟨i, hi⟩) (w7_shw ⟨j, hj⟩) (by rw [w7_eqv ⟨i, hi⟩ ⟨j, hj⟩]; exact q)
theorem mat_jobs {n : Int} {rows : List (List Int)} (hg : good n rows) : Mat n (HL.can rows.reverse) := by
  have ex : ∀ {P : List Int}, Gp n P → HL.can rows.reverse P = HL.can rows P := fun h => can_rev (gp_nd h)
  refine ⟨hg.n0, hg.n7, ?_, fun P G hG hs hc => HL.can_sub (gp_nd hG) hs hc, fun I J hI hJ cI cJ lt => HL.aug (gp_nd (gp_rg n)) (gp_sub hI) (gp_sub hJ) cI cJ lt⟩
  exact HL.short_can _ _ (by simp) fun Q hQ => by rw [List.sublist_nil.mp hQ, HL.short_nil]; exact Int.le_refl _
theorem mat_uni {n k : Int} (h0 : 0 ≤ n) (h7 : n ≤ 7) (k0 : 0 ≤ k) : Mat n (uniB k) := by
  refine ⟨h0, h7, by unfold uniB; simpa using k0, fun P G hG hs hc => ?_, fun I J hI hJ cI cJ lt => ?_⟩
  · have := hs.length_le
    unfold uniB at *
    rw [decide_eq_true_eq] at *
    omega
  · refine Classical.byContradiction fun no => ?_
    have sub : ∀ y ∈ J, y ∈ I := fun y hy => Classical.byContradiction fun ny => no ⟨y, hy, ny, by
      have := ins_len hI (hJ.2 y hy) ny
      unfold uniB at *
      rw [decide_eq_true_eq] at *
      omega⟩
    have := (gp_nd hJ).length_le_of_subset sub
    omega
theorem eqv_tT (r s : List (List Int)) : PyData.eqv (tT r).py (tT s).py = decide (r = s) := by
  rw [show PyData.eqv (tT r).py (tT s).py = PyData.eqvAll (D.pyAll (r.map tI)) (D.pyAll (s.map tI)) by simp only [tT, D.py, PyData.eqv], eqv_rows]
theorem last_max {l : List (List Int)} (o : l.Pairwise gLe) {b : List (List Int)} {x : List Int} (e : l = b ++ [x]) : ∀ r ∈ l, r.length ≤ x.length := by
  subst e
  rw [List.pairwise_append] at o
  intro r hr
  rcases List.mem_append.mp hr with z | z
  · rcases o.2.2 r z x (by simp) with h | ⟨h, _⟩ <;> omega
  · rw [List.mem_singleton.mp z]; exact Nat.le_refl _
theorem last_orT {α : Type} : ∀ l : List α, l = [] ∨ ∃ b x, l = b ++ [x] := fun l => rev_ind (P := fun l => l = [] ∨ ∃ b x, l = b ++ [x]) (.inl rfl) (fun l x _ => .inr ⟨l, x, rfl⟩) l
theorem at_lastT {b : List (List Int)} {x : List Int} : atI ((b ++ [x]).map tI) (-1) = some (tI x) := by
  unfold atI ixN
  rw [List.length_map, List.length_append, List.length_singleton]
  rw [if_neg (by omega), if_pos (by omega)]
  show ((b ++ [x]).map tI)[(-1 + ((b.length + 1 : Nat) : Int)).toNat]? = _
  rw [show (-1 + ((b.length + 1 : Nat) : Int)).toNat = b.length by omega]
  simp
theorem tup_lT {rows : List (List Int)} {Q : RQ} (h : Q false (tT rows)) : mTuple [lT rows] Q := h
theorem er_map {α β : Type} (f : α → β) : ∀ (ks : List α) (j : Nat), (ks.map f).eraseIdx j = (ks.eraseIdx j).map f
  | [], _ => rfl
  | _ :: _, 0 => rfl
  | k :: ks, j + 1 => by simp [er_map f ks j]
theorem str_mem {n : Int} {cs : List (List Int)} {g : List Int} (h0 : 0 ≤ n) (h7 : n ≤ 7) (hg : Gp n g) : g ∈ DW.plc n cs ++ (gps n).filter fun g => !DW.inF cs g := by
  have hm := ((allG_gps h0 h7).mem g).mpr hg
  rw [List.mem_append]
  cases e : DW.inF cs g with
  | true => exact .inl (List.mem_filter.mpr ⟨hm, e⟩)
  | false => exact .inr (List.mem_filter.mpr ⟨hm, by rw [e]; rfl⟩)
theorem crM_tT {n : Int} {c : List Int → Bool} (h : Mat n c) : Sh 525 2 (tT (crM n c)) := sh_tup (shs_map (k := 35) tI _ (fun x hx => sh_tI (h.fam.gp x hx) h.n7) (fam_len h.fam))
theorem uni_crews {n k : Int} (h0 : 0 ≤ n) (h7 : n ≤ 7) (k0 : 0 ≤ k) (kn : k ≤ n) : (gps n).filter (fun g => decide ((g.length : Int) = k)) = crM n (uniB k) := by
  have ha := allG_gps h0 h7
  have hm := mat_uni h0 h7 k0
  have gt : Gp n ((rgI n).take k.toNat) := (gp_rg n).sub (List.take_sublist _ _)
  have lt : ((rgI n).take k.toNat).length = k.toNat := by rw [List.length_take, rgI_len]; omega
  have e : mrM n (uniB k) = k.toNat := by
    refine max_of ⟨(rgI n).take k.toNat, hm.mem.mpr ⟨gt, ?_⟩, lt⟩ fun r hr => ?_
    · unfold uniB; rw [lt, decide_eq_true_eq]; omega
    · have := (hm.mem.mp hr).2
      unfold uniB at this
      rw [decide_eq_true_eq] at this
      omega
  unfold crM
  rw [e]
  unfold plM
  rw [List.filter_filter]
  refine List.filter_congr fun g _ => ?_
  unfold uniB
  rw [Bool.eq_iff_iff, Bool.and_eq_true, decide_eq_true_eq, decide_eq_true_eq, decide_eq_true_eq]
  omega
end DW
namespace K68
open PySem PySem.Spec PyProof.Rows L2 DW
local macro_rules | `(tactic| walk_at "dw") => `(tactic| simp only [rdS_0, rdS_s, rdO_0, rdO_1, rdO_s, startS, endD, mAdd_i, mAdd_b, mAdd_l, mAdd_t, mI_i, mIC_i, mB_i, mLen_l, mLen_t, mList_l, mList_t, mTuple_l, mTuple_t, mInt1_i, mInt1_b, mAbs_i, mIx_l, mIx_t, mSl_l, mSl_t, mSeq_l, mSeq_t, mEnum_l, mEnum_t, mFld_o, mExt_l, mRev_l, mRepr_1, put_f, put_t, frz_0, frz_1, frz_2, frz_s, wpS_0, wpS_1, DW.putAll,
  List.map_cons, List.map_nil, List.cons_append, List.nil_append, List.length_cons, List.length_nil, List.replicate_succ, List.replicate_zero, List.set_cons_zero, List.set_cons_succ, List.set_nil, Nat.reduceAdd, Nat.reduceSub, Nat.zero_add, Bool.not_true, Bool.not_false, if_true, if_false, Bool.false_eq_true, and_true, true_and, decide_eq_true_eq, eq_self, Bool.and_eq_true, Bool.or_eq_true, Bool.not_eq_true, D.bl.injEq, D.int.injEq, D.lst.injEq, D.tup.injEq, exists_eq_left', exists_eq_left, exists_eq_right])
section
variable {g : Gd} {P : Program} {w : World} {K : PySem.W.Frag} {mg : Str → Option Value} {base : Heap} {CJ CFm b c sa : Addr} {cs ns : List Int} {tr : Prop}
abbrev Family___len___s : Stmt := inClass (topS 31) 8
theorem Family___len___sc : FnScope ["self"] ["self"] (defScope Family___len___s) := ⟨rfl, rfl, rfl, by decide +kernel, rfl, by decide +kernel, by decide +kernel⟩
theorem Family___len___ok {Family___len___f : Addr} {Family___len___fd : FuncData} (Family___len___D : Mth K CFm "__len__" "Family.__len__" Family___len___s ["self"] Family___len___f Family___len___fd) (T : Bltn mg) (C_Family : ClsF K mg CFm) : FnOk P w K mg base CX0 1 Family___len___f Family___len___fd ["self"] (spOf g 1 (spFSize CFm)) := by
  refine def_ok Family___len___D.F Family___len___sc rfl (fun cdv A fr s H E hr =>
    (wss_one (ws_ret (we_cb (war_cons (we_fld (wr_v 0 (pv 0)) C_Family.cl C_Family.n__groups).rd war_nil) sc_len (fun t h => pe_callB call_len_seq (by rfl) T.len (by decide +kernel) h))))) ?_
  rintro ds Q hl ⟨n, c, rfl, h, hq⟩
  walk_at "dw"
  refine fldF_groups (len_tT ?_)
  rw [h.plc]
  exact hq

abbrev Family_strength_s : Stmt := inClass (topS 31) 3
theorem Family_strength_sc : FnScope ["self", "group"] ["self", "group"] (defScope Family_strength_s) := ⟨rfl, rfl, rfl, by decide +kernel, rfl, by decide +kernel, by decide +kernel⟩
theorem Family_strength_ok {Family_strength_f : Addr} {Family_strength_fd : FuncData} (Family_strength_D : Mth K CFm "strength" "Family.strength" Family_strength_s ["self", "group"] Family_strength_f Family_strength_fd) (T : Bltn mg) (C_Family : ClsF K mg CFm) : FnOk P w K mg base CX0 1 Family_strength_f Family_strength_fd ["self", "group"] (spOf g 2 (spFStr CFm)) := by
  refine def_ok Family_strength_D.F Family_strength_sc rfl (fun cdv A fr s H E hr =>
    (wss_one (ws_ret (we_dget hr.units (we_fld (wr_v 0 (pv 0)) C_Family.cl C_Family.n__strengths).rd (wr_v 1 (pv 1)))))) ?_
  rintro ds Q hl ⟨n, c, g, rfl, h, hg, hq⟩
  walk_at "dw"
  exact fldF_strengths (dget_T (f := fun g => .int (rkF (crM n c) g : Int)) (str_mem h.n0 h.n7 hg) hq)

abbrev Family___contains___s : Stmt := inClass (topS 31) 6
theorem Family___contains___sc : FnScope ["self", "group"] ["self", "group"] (defScope Family___contains___s) := ⟨rfl, rfl, rfl, by decide +kernel, rfl, by decide +kernel, by decide +kernel⟩
theorem Family___contains___ok {Family___contains___f : Addr} {Family___contains___fd : FuncData} (Family___contains___D : Mth K CFm "__contains__" "Family.__contains__" Family___contains___s ["self", "group"] Family___contains___f Family___contains___fd) (T : Bltn mg) (C_Family : ClsF K mg CFm)
    {is_group_f : Addr} {is_group_fd : FuncData} (is_group_D : Dfn K mg "is_group" "is_group" is_group_s ["size", "thing"] is_group_f is_group_fd) (is_group_G : FnOk P w K mg base CX0 2 is_group_f is_group_fd ["size", "thing"] (spOf g 2 spIsGroup)) : FnOk P w K mg base CX0 3 Family___contains___f Family___contains___fd ["self", "group"] (spOf g 2 (spFHas CFm)) := by
  refine def_ok Family___contains___D.F Family___contains___sc rfl (fun cdv A fr s H E hr =>
    (wss_one (ws_ret (we_and (we_call (wa_cons (we_fld (wr_v 0 (pv 0)) C_Family.cl C_Family.n_size) (wa_cons (we_v 1 (pv 1)) wa_nil)) (fun t h => pe_call is_group_G (hr.mono (by decide)) (by rfl) is_group_D.m is_group_D.F.kp is_group_D.b .nil pass0 h)) (we_one (we_cmp (op_eqF hr.units) s2_eqF (we_dget hr.units (we_fld (wr_v 0 (pv 0)) C_Family.cl C_Family.n__strengths).rd (wr_v 1 (pv 1))).rd (we_cb (war_cons (wr_v 1 (pv 1)) war_nil) sc_len (fun t h => pe_callB call_len_seq (by rfl) T.len (by decide +kernel) h)).rd (nomark _))))))) ?_
  rintro ds Q hl ⟨n, c, g, rfl, h, hg, hq⟩
  walk_at "dw"
  refine fldF_size ⟨_, _, rfl, plain_ints g, ?_⟩
  rw [isGroup_gp hg]
  refine ⟨_, rfl, ?_⟩
  rw [if_pos rfl]
  refine fldF_strengths (dget_T (f := fun g => .int (rkF (crM n c) g : Int)) (str_mem h.n0 h.n7 hg) (len_tI (eq_int ?_)))
  have := h.rk_iff hg
  unfold rkM at this
  rw [this]
  exact hq

abbrev Family___iter___s : Stmt := inClass (topS 31) 7
theorem Family___iter___sc : FnScope ["self"] ["self"] (defScope Family___iter___s) := ⟨rfl, rfl, rfl, by decide +kernel, rfl, by decide +kernel, by decide +kernel⟩
theorem Family___iter___ok {Family___iter___f : Addr} {Family___iter___fd : FuncData} (Family___iter___D : Mth K CFm "__iter__" "Family.__iter__" Family___iter___s ["self"] Family___iter___f Family___iter___fd) (C_Family : ClsF K mg CFm) (T_iter : mg "iter" = none) : ItrM P w K mg base 1 CFm Family___iter___f Family___iter___fd "_groups" :=
  itr_mk Family___iter___D.F Family___iter___sc Family___iter___D.b Family___iter___D.m.at_ Family___iter___D.m.fn C_Family.cl C_Family.n__groups (fun cdv A fr s H E => ⟨_, fun σ H' R => Iff.rfl, pss_one (ps_ret (pe_callB call_iterT (by rfl) T_iter (by decide +kernel) (pa_cons (pe_fld (pv 0) (by rfl)) pa_nil)))⟩)
abbrev Family___eq___s : Stmt := inClass (topS 31) 9
theorem Family___eq___sc : FnScope ["self", "other"] ["self", "other"] (defScope Family___eq___s) := ⟨rfl, rfl, rfl, by decide +kernel, rfl, by decide +kernel, by decide +kernel⟩
theorem Family___eq___ok {Family___eq___f : Addr} {Family___eq___fd : FuncData} (Family___eq___D : Mth K CFm "__eq__" "Family.__eq__" Family___eq___s ["self", "other"] Family___eq___f Family___eq___fd) (T : Bltn mg) (C_Family : ClsF K mg CFm) : FnOk P w K mg base CX0 1 Family___eq___f Family___eq___fd ["self", "other"] (spOf g 2 (spFEq CFm)) := by
  refine def_ok Family___eq___D.F Family___eq___sc rfl (fun cdv A fr s H E hr =>
    (wss_one (ws_ret (we_and (we_cb (war_cons (wr_v 1 (pv 1)) (war_cons (we_rf (by rfl) C_Family.mg).rd war_nil)) sc_isi (fun t h => pe_callB call_isiA (by rfl) T.isinstance (by decide +kernel) h)) (we_and (we_cmp (op_eqF hr.units) s2_eqF (we_fld (wr_v 0 (pv 0)) C_Family.cl C_Family.n_size).rd (we_fld (wr_v 1 (pv 1)) C_Family.cl C_Family.n_size).rd (nomark _)) (we_one (we_cmp (op_eqF hr.units) s2_eqF (we_fld (wr_v 0 (pv 0)) C_Family.cl C_Family.n_crews).rd (we_fld (wr_v 1 (pv 1)) C_Family.cl C_Family.n_crews).rd (nomark _)))))))) ?_
  rintro ds Q hl ⟨n, c, m, e, rfl, h, h2, hq⟩
  walk_at "dw"
  refine ⟨_, _, true, rfl, (fun C fs e => by cases e; exact C_Family.ins), rfl, C_Family.isi, ⟨_, rfl, ?_⟩⟩
  rw [if_pos rfl]
  refine fldF_size (fldF_size (eq_int ⟨_, rfl, ?_⟩))
  by_cases z : n = m
  · subst z
    rw [if_pos (decide_eq_true rfl)]
    refine fld_crews (fld_crews (eq_data (crM_tT h).shw (crM_tT h2).shw ?_))
    rw [eqv_tT]
    rwa [show decide (crM n c = crM n e) = decide (n = n ∧ crM n c = crM n e) by simp]
  · rw [if_neg (by simp [z])]
    rwa [show decide (n = m ∧ crM n c = crM m e) = false by simp [z]] at hq

end
end K68
namespace DW
open PySem PySem.Spec PyProof.Rows L2

def sm (g : List Int) (f : Int → Int) : Int := (g.map f).sum
theorem sm_nil (f : Int → Int) : sm [] f = 0 := rfl
theorem sm_cons (x : Int) (g : List Int) (f : Int → Int) : sm (x :: g) f = f x + sm g f := by simp [sm]
theorem sm_congr {g : List Int} {f h : Int → Int} (e : ∀ x ∈ g, f x = h x) : sm g f = sm g h := by
  unfold sm
  rw [List.map_congr_left e]
theorem sm_add (g : List Int) (f h : Int → Int) : sm g (fun x => f x + h x) = sm g f + sm g h := by
  induction g with
  | nil => rfl
  | cons x g ih => rw [sm_cons, sm_cons, sm_cons, ih]; omega
theorem sm_sub (g : List Int) (f h : Int → Int) : sm g (fun x => f x - h x) = sm g f - sm g h := by
  induction g with
  | nil => rfl
  | cons x g ih => rw [sm_cons, sm_cons, sm_cons, ih]; omega
theorem sm_mul (g : List Int) (k : Int) (f : Int → Int) : sm g (fun x => k * f x) = k * sm g f := by
  induction g with
  | nil => simp [sm]
  | cons x g ih => rw [sm_cons, sm_cons, ih, Int.mul_add]
theorem sm_mulr (g : List Int) (k : Int) (f : Int → Int) : sm g (fun x => f x * k) = sm g f * k := by
  rw [Int.mul_comm, ← sm_mul]
  exact sm_congr fun x _ => Int.mul_comm _ _
theorem sm_app (g h : List Int) (f : Int → Int) : sm (g ++ h) f = sm g f + sm h f := by
  induction g with
  | nil => rw [List.nil_append, sm_nil, Int.zero_add]
  | cons x g ih => rw [List.cons_append, sm_cons, sm_cons, ih, Int.add_assoc]
theorem sm_zero (g : List Int) : sm g (fun _ => 0) = 0 := by
  induction g with
  | nil => rfl
  | cons x g ih => rw [sm_cons, ih]; rfl
theorem sm_swap (J I : List Int) (f : Int → Int → Int) : sm J (fun y => sm I (fun x => f y x)) = sm I (fun x => sm J (fun y => f y x)) := by
  induction J with
  | nil => rw [sm_nil]; exact (sm_zero I).symm
  | cons y J ih =>
    rw [sm_cons, ih, ← sm_add]
    exact sm_congr fun x _ => (sm_cons y J (fun y => f y x)).symm
theorem sm_filter (g : List Int) (p : Int → Bool) (f : Int → Int) : sm (g.filter p) f = sm g (fun x => if p x = true then f x else 0) := by
  induction g with
  | nil => rfl
  | cons x g ih =>
    rw [List.filter_cons, sm_cons]
    cases e : p x with
    | true => rw [if_pos rfl, if_pos rfl, sm_cons, ih]
    | false => rw [if_neg (by simp), if_neg (by simp), ih, Int.zero_add]
theorem sm_dvd {p : Int} {g : List Int} {f : Int → Int} (h : ∀ x ∈ g, p ∣ f x) : p ∣ sm g f := by
  induction g with
  | nil => exact Int.dvd_zero p
  | cons x g ih =>
    rw [sm_cons]
    exact Int.dvd_add (h x List.mem_cons_self) (ih fun y hy => h y (List.mem_cons_of_mem _ hy))
theorem sm_pick {g : List Int} {k : Int} (f : Int → Int) (nd : g.Nodup) (hk : k ∈ g) : sm g f = f k + sm (g.filter fun x => x != k) f := by
  induction g with
  | nil => cases hk
  | cons x g ih =>
    obtain ⟨nx, nd⟩ := List.nodup_cons.mp nd
    rw [sm_cons, List.filter_cons]
    by_cases e : x = k
    · subst e
      have : (g.filter fun y => y != x) = g := List.filter_eq_self.mpr fun y hy => by
        simp only [bne_iff_ne, ne_eq]
        rintro rfl
        exact nx hy
      simp [this]
    · rcases List.mem_cons.mp hk with z | z
      · exact absurd z.symm e
      · rw [if_pos (by simpa using e), sm_cons, ih nd z]; omega
structure Pr (p : Int) : Prop where
  one : ¬ p ∣ 1
  inv : ∀ a, ¬ p ∣ a → ∃ t, p ∣ t * a - 1
theorem Pr.mul {p a b : Int} (h : Pr p) (d : p ∣ a * b) (n : ¬ p ∣ a) : p ∣ b := by
  obtain ⟨t, k, e⟩ := h.inv a n
  obtain ⟨m, e2⟩ := d
  refine ⟨t * m - k * b, ?_⟩
  have e3 : t * a = 1 + p * k := by omega
  have e4 : t * (a * b) = (1 + p * k) * b := by rw [← Int.mul_assoc, e3]
  rw [e2, Int.add_mul, Int.one_mul] at e4
  have e5 : p * (t * m - k * b) = t * (p * m) - p * k * b := by
    rw [Int.mul_sub, ← Int.mul_assoc, ← Int.mul_assoc, ← Int.mul_assoc, Int.mul_comm p t]
  omega
theorem pr2 : Pr 2 := ⟨by omega, fun a h => ⟨1, by omega⟩⟩
theorem pr3 : Pr 3 := ⟨by omega, fun a h => by
  rcases (by omega : a % 3 = 1 ∨ a % 3 = 2) with z | z
  · exact ⟨1, by omega⟩
  · exact ⟨2, by omega⟩⟩
theorem pr5 : Pr 5 := ⟨by omega, fun a h => by
  rcases (by omega : a % 5 = 1 ∨ a % 5 = 2 ∨ a % 5 = 3 ∨ a % 5 = 4) with z | z | z | z
  · exact ⟨1, by omega⟩
  · exact ⟨3, by omega⟩
  · exact ⟨2, by omega⟩
  · exact ⟨4, by omega⟩⟩
theorem rm_len {g : List Int} {k : Int} (nd : g.Nodup) (hk : k ∈ g) : (g.filter fun x => x != k).length + 1 = g.length := by
  have f1 := HL.filter_not_len (fun x => x != k) g
  have e : (g.filter fun x => !(x != k)) = g.filter fun x => x == k := List.filter_congr fun x _ => by simp [bne]
  have := HL.one_of nd hk
  rw [e] at f1
  omega
/-- more rows than columns: something of them is nothing -/
theorem ker {p : Int} (hp : Pr p) : ∀ (n : Nat) (g : List Int) (a : Int → Nat → Int), g.Nodup → n < g.length → ∃ c : Int → Int, (∃ x ∈ g, ¬ p ∣ c x) ∧ ∀ j, j < n → p ∣ sm g (fun x => c x * a x j)
  | 0, g, a, nd, hl => by
    obtain ⟨x, hx⟩ := List.exists_mem_of_ne_nil g (List.ne_nil_of_length_pos hl)
    exact ⟨fun _ => 1, ⟨x, hx, hp.one⟩, fun j hj => absurd hj (Nat.not_lt_zero j)⟩
  | n + 1, g, a, nd, hl => by
    by_cases h : ∀ x ∈ g, p ∣ a x n
    · obtain ⟨c, c1, c2⟩ := ker hp n g a nd (by omega)
      refine ⟨c, c1, fun j hj => ?_⟩
      by_cases e : j = n
      · subst e
        exact sm_dvd fun x hx => Int.dvd_trans (h x hx) (Int.dvd_mul_left _ _)
      · exact c2 j (by omega)
    · obtain ⟨k, hk, nk⟩ : ∃ k ∈ g, ¬ p ∣ a k n := Classical.byContradiction fun z => h fun x hx => Classical.byContradiction fun y => z ⟨x, hx, y⟩
      obtain ⟨t, ht⟩ := hp.inv _ nk
      have l' := rm_len nd hk
      obtain ⟨c, ⟨x, hx, nx⟩, c2⟩ := ker hp n (g.filter fun x => x != k) (fun x j => a x j - a x n * t * a k j) (nd.sublist List.filter_sublist) (by omega)
      obtain ⟨xg, xk⟩ := List.mem_filter.mp hx
      have xk : x ≠ k := by simpa using xk
      let S := sm (g.filter fun x => x != k) fun x => c x * a x n
      refine ⟨fun x => if x = k then - t * S else c x, ⟨x, xg, by show ¬ p ∣ (if x = k then - t * S else c x); rw [if_neg xk]; exact nx⟩, fun j hj => ?_⟩
      rw [sm_pick _ nd hk]
      dsimp only
      rw [if_pos rfl]
      have e1 : (sm (g.filter fun x => x != k) fun x => (if x = k then - t * S else c x) * a x j) = sm (g.filter fun x => x != k) fun x => c x * a x j := sm_congr fun y hy => by
        have : y ≠ k := by simpa using (List.mem_filter.mp hy).2
        rw [if_neg this]
      rw [e1]
      have e2 : (sm (g.filter fun x => x != k) fun x => c x * (a x j - a x n * t * a k j)) = (sm (g.filter fun x => x != k) fun x => c x * a x j) - S * (t * a k j) := by
        rw [← sm_mulr, ← sm_sub]
        exact sm_congr fun y _ => by rw [Int.mul_sub, Int.mul_assoc (a y n) t, ← Int.mul_assoc (c y)]
      have e3 : - t * S * a k j = - (S * (t * a k j)) := by rw [Int.neg_mul, Int.neg_mul, Int.mul_comm t S, Int.mul_assoc]
      rw [e3]
      by_cases e : j = n
      · subst e
        obtain ⟨m, hm⟩ := ht
        refine ⟨- (S * m), ?_⟩
        have e4 : S * (t * a k j) = S + S * (p * m) := by rw [← hm, Int.mul_sub, Int.mul_one]; omega
        show - (S * (t * a k j)) + S = _
        rw [e4, Int.mul_neg, ← Int.mul_assoc p S m, Int.mul_comm p S, Int.mul_assoc]; omega
      · have := c2 j (by omega)
        rw [e2] at this
        rwa [Int.add_comm, ← Int.sub_eq_add_neg]
def Ind (p : Int) (w : Nat) (a : Int → Nat → Int) (g : List Int) : Prop := ∀ c : Int → Int, (∀ j, j < w → p ∣ sm g (fun x => c x * a x j)) → ∀ x ∈ g, p ∣ c x
noncomputable def indB (p : Int) (w : Nat) (a : Int → Nat → Int) (g : List Int) : Bool := @decide (Ind p w a g) (Classical.propDecidable _)
theorem indB_iff {p : Int} {w : Nat} {a : Int → Nat → Int} {g : List Int} : indB p w a g = true ↔ Ind p w a g := by unfold indB; exact @decide_eq_true_iff _ (Classical.propDecidable _)
theorem Ind.sub {p : Int} {w : Nat} {a : Int → Nat → Int} {P G : List Int} (nd : G.Nodup) (hs : P.Sublist G) (h : Ind p w a G) : Ind p w a P := by
  intro c hc x hx
  have := h (fun x => if P.contains x = true then c x else 0) (fun j hj => by
    have e : (sm G fun x => (if P.contains x = true then c x else 0) * a x j) = sm P fun x => c x * a x j := by
      conv => rhs; rw [HL.sub_filter hs nd]
      rw [sm_filter]
      exact sm_congr fun x _ => by split <;> simp
    rw [e]; exact hc j hj) x (hs.subset hx)
  rwa [if_pos (by simpa using hx)] at this
theorem mat_lin {p n : Int} {w : Nat} {a : Int → Nat → Int} (hp : Pr p) (h0 : 0 ≤ n) (h7 : n ≤ 7) : Mat n (indB p w a) := by
  refine ⟨h0, h7, indB_iff.mpr fun c _ x hx => (nomatch hx), fun P G hG hs hc => indB_iff.mpr ((indB_iff.mp hc).sub (gp_nd hG) hs), fun I J gI gJ cI cJ lt => ?_⟩
  have cI := indB_iff.mp cI
  have cJ := indB_iff.mp cJ
  refine Classical.byContradiction fun no => ?_
  have dep : ∀ y, ∃ dc : Int × (Int → Int), y ∈ J → ¬ p ∣ dc.1 ∧ ∀ j, j < w → p ∣ dc.1 * a y j + sm I (fun x => dc.2 x * a x j) := by
    intro y
    by_cases hy : y ∈ J
    · by_cases yI : y ∈ I
      · refine ⟨(1, fun x => if x = y then -1 else 0), fun _ => ⟨hp.one, fun j _ => ?_⟩⟩
        rw [sm_pick _ (gp_nd gI) yI]
        dsimp only
        rw [if_pos rfl]
        have e : (sm (I.filter fun x => x != y) fun x => (if x = y then (-1 : Int) else 0) * a x j) = sm (I.filter fun x => x != y) fun _ => 0 := sm_congr fun x hx => by
          have : x ≠ y := by simpa using (List.mem_filter.mp hx).2
          rw [if_neg this, Int.zero_mul]
        rw [e, sm_zero]
        exact ⟨0, by omega⟩
      · have hy2 := gJ.2 y hy
        have nI : ¬ Ind p w a ((rgI n).filter fun k => I.contains k || k == y) := fun z => no ⟨y, hy, yI, indB_iff.mpr z⟩
        obtain ⟨c, hc⟩ : ∃ c : Int → Int, ¬ ((∀ j, j < w → p ∣ sm ((rgI n).filter fun k => I.contains k || k == y) (fun x => c x * a x j)) → ∀ x ∈ (rgI n).filter fun k => I.contains k || k == y, p ∣ c x) := Classical.byContradiction fun z => nI fun c => Classical.byContradiction fun q => z ⟨c, q⟩
        have h1 : ∀ j, j < w → p ∣ sm ((rgI n).filter fun k => I.contains k || k == y) (fun x => c x * a x j) := Classical.byContradiction fun z => hc fun q => absurd q z
        have gs : Gp n ((rgI n).filter fun k => I.contains k || k == y) := (gp_rg n).filter _
        have my := (mem_ins gI hy2 (k := y)).mpr (.inr rfl)
        have ef : ((rgI n).filter fun k => I.contains k || k == y).filter (fun x => x != y) = I := rise_uniq (gs.1.sublist List.filter_sublist) gI.1 fun k => by
          rw [List.mem_filter, mem_ins gI hy2]
          simp only [bne_iff_ne, ne_eq]
          exact ⟨fun z => z.1.resolve_right z.2, fun z => ⟨.inl z, fun q => yI (q ▸ z)⟩⟩
        have h2 : ∀ j, j < w → p ∣ c y * a y j + sm I (fun x => c x * a x j) := fun j hj => by
          have := h1 j hj
          rwa [sm_pick _ (gp_nd gs) my, ef] at this
        refine ⟨(c y, c), fun _ => ⟨fun z => ?_, h2⟩⟩
        refine hc fun _ x hx => ?_
        rcases (mem_ins gI hy2).mp hx with q | q
        · refine cI c (fun j hj => ?_) x q
          have := Int.dvd_sub (h2 j hj) (Int.dvd_trans z (Int.dvd_mul_right _ (a y j)))
          rwa [show ∀ u v : Int, u + v - u = v from fun u v => by omega] at this
        · rw [q]; exact z
    · exact ⟨(0, fun _ => 0), fun z => absurd z hy⟩
  obtain ⟨f, hf⟩ := Classical.axiomOfChoice dep
  obtain ⟨e, ⟨y, hy, ny⟩, he⟩ := ker hp I.length J (fun y j => (f y).2 (I.getD j 0)) (gp_nd gJ) lt
  have he2 : ∀ x ∈ I, p ∣ sm J (fun y => e y * (f y).2 x) := fun x hx => by
    obtain ⟨j, hj, q⟩ := List.mem_iff_getElem.mp hx
    have := he j hj
    have z : I.getD j 0 = x := by simp [List.getD_eq_getElem?_getD, hj, q]
    simpa only [z] using this
  have := cJ (fun y => e y * (f y).1) (fun j hj => by
    have d1 : p ∣ sm J fun y => e y * ((f y).1 * a y j + sm I fun x => (f y).2 x * a x j) := sm_dvd fun y hy => Int.dvd_trans ((hf y hy).2 j hj) (Int.dvd_mul_left _ _)
    have e1 : (sm J fun y => e y * ((f y).1 * a y j + sm I fun x => (f y).2 x * a x j)) = (sm J fun y => e y * (f y).1 * a y j) + sm I fun x => (sm J fun y => e y * (f y).2 x) * a x j := by
      have e2 : (sm I fun x => (sm J fun y => e y * (f y).2 x) * a x j) = sm J fun y => e y * sm I fun x => (f y).2 x * a x j := by
        have : ∀ y ∈ J, (e y * sm I fun x => (f y).2 x * a x j) = sm I fun x => e y * (f y).2 x * a x j := fun y _ => by
          rw [← sm_mul]
          exact sm_congr fun x _ => (Int.mul_assoc _ _ _).symm
        rw [sm_congr this, sm_swap]
        exact sm_congr fun x _ => (sm_mulr _ _ _).symm
      rw [e2, ← sm_add]
      exact sm_congr fun y _ => by rw [Int.mul_add, Int.mul_assoc]
    rw [e1] at d1
    have d2 : p ∣ sm I fun x => (sm J fun y => e y * (f y).2 x) * a x j := sm_dvd fun x hx => Int.dvd_trans (he2 x hx) (Int.dvd_mul_right _ _)
    have := Int.dvd_sub d1 d2
    rwa [show ∀ u v : Int, u + v - v = u from fun u v => by omega] at this) y hy
  exact ny (hp.mul (by rw [Int.mul_comm]; exact this) (hf y hy).1)

theorem Mat.ext_base {n : Int} {c : List Int → Bool} (h : Mat n c) {B : List Int} (hB : B ∈ crM n c) : ∀ (k : Nat) (P : List Int), Gp n P → c P = true → mrM n c - P.length = k → ∃ b ∈ crM n c, (∀ x ∈ P, x ∈ b) ∧ ∀ x ∈ b, x ∈ P ∨ x ∈ B := by
  intro k
  induction k with
  | zero =>
    intro P gP cP hk
    have := h.at_.2 P (h.mem.mpr ⟨gP, cP⟩)
    exact ⟨P, h.memc.mpr ⟨⟨gP, cP⟩, by omega⟩, fun x hx => hx, fun x hx => .inl hx⟩
  | succ k ih =>
    intro P gP cP hk
    obtain ⟨⟨gB, cB⟩, lB⟩ := h.memc.mp hB
    obtain ⟨y, yB, yP, cy⟩ := h.aug P B gP gB cP cB (by omega)
    have hy := gB.2 y yB
    have li := ins_len gP hy yP
    obtain ⟨b, hb, h1, h2⟩ := ih _ ((gp_rg n).filter _) cy (by omega)
    refine ⟨b, hb, fun x hx => h1 x ((mem_ins gP hy).mpr (.inl hx)), fun x hx => ?_⟩
    rcases h2 x hx with z | z
    · rcases (mem_ins gP hy).mp z with q | q
      · exact .inl q
      · exact .inr (q ▸ yB)
    · exact .inr z
theorem mem_out {n : Int} {g : List Int} {x : Int} : x ∈ out n g ↔ (0 ≤ x ∧ x < n) ∧ x ∉ g := by
  unfold out
  rw [List.mem_filter, mem_rgI]
  simp
def dualB (n : Int) (c : List Int → Bool) (g : List Int) : Bool := DW.inF ((crM n c).map (out n)) g
theorem dual_iff {n : Int} {c : List Int → Bool} {g : List Int} (hg : Gp n g) : dualB n c g = true ↔ ∃ B ∈ crM n c, ∀ x ∈ g, x ∉ B := by
  unfold dualB
  rw [inF_iff]
  constructor
  · rintro ⟨o, ho, hs⟩
    obtain ⟨B, hB, rfl⟩ := List.mem_map.mp ho
    exact ⟨B, hB, fun x hx => (mem_out.mp (hs x hx)).2⟩
  · rintro ⟨B, hB, hs⟩
    exact ⟨out n B, List.mem_map.mpr ⟨B, hB, rfl⟩, fun x hx => mem_out.mpr ⟨hg.2 x hx, hs x hx⟩⟩
theorem part_len (g : List Int) (p : Int → Bool) : (g.filter p).length + (g.filter fun x => !p x).length = g.length := by
  have := HL.filter_not_len p g
  omega
theorem two_len {A B C : List Int} (nA : A.Nodup) (nB : B.Nodup) (dis : ∀ x ∈ A, x ∉ B) (hA : ∀ x ∈ A, x ∈ C) (hB : ∀ x ∈ B, x ∈ C) : A.length + B.length ≤ C.length := by
  have nd : (A ++ B).Nodup := by
    rw [List.nodup_append]
    exact ⟨nA, nB, fun a ha b hb e => dis a ha (e ▸ hb)⟩
  have := nd.length_le_of_subset (l₂ := C) fun x hx => by
    rcases List.mem_append.mp hx with z | z
    · exact hA x z
    · exact hB x z
  rw [List.length_append] at this
  exact this
theorem mat_dual {n : Int} {c : List Int → Bool} (h : Mat n c) : Mat n (dualB n c) := by
  have gnil : Gp n [] := ⟨.nil, fun x z => nomatch z⟩
  refine ⟨h.n0, h.n7, ?_, fun P G hG hs hc => ?_, fun I J gI gJ cI cJ lt => ?_⟩
  · obtain ⟨B, hB⟩ := List.exists_mem_of_ne_nil _ h.fam.ne
    exact (dual_iff gnil).mpr ⟨B, hB, fun x hx => nomatch hx⟩
  · obtain ⟨B, hB, hd⟩ := (dual_iff hG).mp hc
    exact (dual_iff (hG.sub hs)).mpr ⟨B, hB, fun x hx => hd x (hs.subset hx)⟩
  · obtain ⟨BI, hBI, dI⟩ := (dual_iff gI).mp cI
    obtain ⟨BJ, hBJ, dJ⟩ := (dual_iff gJ).mp cJ
    obtain ⟨⟨gBJ, cBJ⟩, lBJ⟩ := h.memc.mp hBJ
    have gP : Gp n (BJ.filter fun x => !I.contains x) := gBJ.filter _
    obtain ⟨b, hb, b1, b2⟩ := h.ext_base hBI _ (BJ.filter fun x => !I.contains x) gP (h.sub _ _ gBJ List.filter_sublist cBJ) rfl
    obtain ⟨⟨gb, cb⟩, lb⟩ := h.memc.mp hb
    have dbI : ∀ x ∈ I, x ∉ b := fun x hx z => by
      rcases b2 x z with q | q
      · have := (List.mem_filter.mp q).2
        simp [hx] at this
      · exact dI x hx q
    refine Classical.byContradiction fun no => ?_
    have all : ∀ y ∈ J.filter (fun x => !I.contains x), y ∈ b := fun y hy => by
      obtain ⟨yJ, yI⟩ := List.mem_filter.mp hy
      have yI : y ∉ I := by simpa using yI
      refine Classical.byContradiction fun yb => no ⟨y, yJ, yI, ?_⟩
      refine (dual_iff ((gp_rg n).filter _)).mpr ⟨b, hb, fun x hx => ?_⟩
      rcases (mem_ins gI (gJ.2 y yJ)).mp hx with q | q
      · exact dbI x q
      · rw [q]; exact yb
    have e1 := two_len (gp_nd gP) ((gp_nd gJ).sublist List.filter_sublist) (fun x hx z => dJ x (List.mem_filter.mp z).1 (List.mem_filter.mp hx).1) b1 all
    have e2 := two_len (A := BJ.filter fun x => I.contains x) (B := J.filter fun x => I.contains x) (C := I) ((gp_nd gBJ).sublist List.filter_sublist) ((gp_nd gJ).sublist List.filter_sublist) (fun x hx z => dJ x (List.mem_filter.mp z).1 (List.mem_filter.mp hx).1)
      (fun x hx => by simpa using (List.mem_filter.mp hx).2) (fun x hx => by simpa using (List.mem_filter.mp hx).2)
    have p1 := part_len BJ fun x => I.contains x
    have p2 := part_len J fun x => I.contains x
    omega
def capB (c : List Int → Bool) (k : Int) (g : List Int) : Bool := c g && decide ((g.length : Int) ≤ k)
theorem mat_cap {n k : Int} {c : List Int → Bool} (h : Mat n c) (k0 : 0 ≤ k) : Mat n (capB c k) := by
  refine ⟨h.n0, h.n7, ?_, fun P G hG hs hc => ?_, fun I J gI gJ cI cJ lt => ?_⟩
  · unfold capB
    rw [h.nil]
    simpa using k0
  · unfold capB at *
    rw [Bool.and_eq_true, decide_eq_true_eq] at *
    have := hs.length_le
    exact ⟨h.sub P G hG hs hc.1, by omega⟩
  · unfold capB at *
    rw [Bool.and_eq_true, decide_eq_true_eq] at cI cJ
    obtain ⟨y, yJ, yI, cy⟩ := h.aug I J gI gJ cI.1 cJ.1 lt
    refine ⟨y, yJ, yI, ?_⟩
    rw [Bool.and_eq_true, decide_eq_true_eq]
    have := ins_len gI (gJ.2 y yJ) yI
    exact ⟨cy, by omega⟩
/-! ### few groups gone -/
theorem grow {n : Int} (h0 : 0 ≤ n) : ∀ (k : Nat) (g : List Int), Gp n g → (g.length + k : Int) ≤ n → ∃ h, Gp n h ∧ (∀ x ∈ g, x ∈ h) ∧ h.length = g.length + k
  | 0, g, hg, _ => ⟨g, hg, fun x hx => hx, rfl⟩
  | k + 1, g, hg, hl => by
    obtain ⟨y, hy⟩ : ∃ y, y ∈ out n g := by
      refine List.exists_mem_of_ne_nil _ fun e => ?_
      have p := part_len (rgI n) fun x => g.contains x
      rw [show (rgI n).filter (fun x => !g.contains x) = [] from e, rgI_len] at p
      have : ((rgI n).filter fun x => g.contains x).length ≤ g.length := ((gp_nd (gp_rg n)).sublist List.filter_sublist).length_le_of_subset fun x hx => by simpa using (List.mem_filter.mp hx).2
      simp only [List.length_nil] at p
      omega
    obtain ⟨y1, y2⟩ := mem_out.mp hy
    have li := ins_len hg y1 y2
    obtain ⟨h, a, b, c⟩ := grow h0 k ((rgI n).filter fun x => g.contains x || x == y) ((gp_rg n).filter _) (by omega)
    exact ⟨h, a, fun x hx => b x ((mem_ins hg y1).mpr (.inl hx)), by omega⟩
def pavB (n : Int) (r : Nat) (gone : List (List Int)) (g : List Int) : Bool := DW.inF ((gps n).filter fun g => decide (g.length = r) && !gone.contains g) g
/-- two groups that are gone have few members in common -/
def Few (r : Nat) (gone : List (List Int)) : Prop := ∀ A ∈ gone, ∀ B ∈ gone, A ≠ B → (A.filter fun x => B.contains x).length + 2 ≤ r
theorem few_one {n : Int} {r : Nat} {gone : List (List Int)} (hf : Few r gone) {I : List Int} {y z : Int} (gI : Gp n I) (hI : I.length + 1 = r) (hy : 0 ≤ y ∧ y < n) (hz : 0 ≤ z ∧ z < n) (yI : y ∉ I) (zI : z ∉ I) (yz : y ≠ z) :
    ((rgI n).filter fun k => I.contains k || k == y) ∉ gone ∨ ((rgI n).filter fun k => I.contains k || k == z) ∉ gone := by
  refine Classical.byContradiction fun no => ?_
  have a : ((rgI n).filter fun k => I.contains k || k == y) ∈ gone := Classical.byContradiction fun q => no (.inl q)
  have b : ((rgI n).filter fun k => I.contains k || k == z) ∈ gone := Classical.byContradiction fun q => no (.inr q)
  have ne : ((rgI n).filter fun k => I.contains k || k == y) ≠ (rgI n).filter fun k => I.contains k || k == z := fun e => by
    have m := (mem_ins gI hy (k := y)).mpr (.inr rfl)
    rw [e] at m
    rcases (mem_ins gI hz).mp m with q | q
    · exact yI q
    · exact yz q
  have := hf _ a _ b ne
  have l : I.length ≤ (((rgI n).filter fun k => I.contains k || k == y).filter fun x => ((rgI n).filter fun k => I.contains k || k == z).contains x).length := (gp_nd gI).length_le_of_subset fun x hx => List.mem_filter.mpr ⟨(mem_ins gI hy).mpr (.inl hx), by
    rw [List.contains_iff_mem]
    exact (mem_ins gI hz).mpr (.inl hx)⟩
  omega
theorem pav_iff {n : Int} {r : Nat} {gone : List (List Int)} (h0 : 0 ≤ n) (h7 : n ≤ 7) (hr : (r : Int) + 1 ≤ n) (hr0 : 0 < r) (hf : Few r gone) {g : List Int} (hg : Gp n g) : pavB n r gone g = true ↔ g.length < r ∨ (g.length = r ∧ g ∉ gone) := by
  have ha := allG_gps h0 h7
  have mem : ∀ P, P ∈ ((gps n).filter fun g => decide (g.length = r) && !gone.contains g) ↔ Gp n P ∧ P.length = r ∧ P ∉ gone := fun P => by
    rw [List.mem_filter, ha.mem]
    simp
  unfold pavB
  rw [inF_iff]
  constructor
  · rintro ⟨c, hc, hs⟩
    obtain ⟨gc, lc, nc⟩ := (mem c).mp hc
    have sl := (sub_iff hg gc).mpr hs
    have := sl.length_le
    by_cases e : g.length = r
    · have : g = c := sl.eq_of_length (by omega)
      exact .inr ⟨e, this ▸ nc⟩
    · exact .inl (by omega)
  · rintro (lt | ⟨e, ng⟩)
    · obtain ⟨I, gI, sI, lI⟩ := grow h0 (r - 1 - g.length) g hg (by omega)
      obtain ⟨H, gH, sH, lH⟩ := grow h0 2 I gI (by omega)
      have two : ∃ y ∈ H, ∃ z ∈ H, y ∉ I ∧ z ∉ I ∧ y ≠ z := by
        have p := part_len H fun x => I.contains x
        have q : (H.filter fun x => I.contains x).length ≤ I.length := ((gp_nd gH).sublist List.filter_sublist).length_le_of_subset fun x hx => by simpa using (List.mem_filter.mp hx).2
        have nd : (H.filter fun x => !I.contains x).Nodup := (gp_nd gH).sublist List.filter_sublist
        match e : H.filter (fun x => !I.contains x), nd with
        | [], _ => rw [e, List.length_nil] at p; omega
        | [x], _ => rw [e, List.length_singleton] at p; omega
        | y :: z :: l, nd =>
          have my : y ∈ H.filter fun x => !I.contains x := by rw [e]; simp
          have mz : z ∈ H.filter fun x => !I.contains x := by rw [e]; simp
          obtain ⟨y1, y2⟩ := List.mem_filter.mp my
          obtain ⟨z1, z2⟩ := List.mem_filter.mp mz
          refine ⟨y, y1, z, z1, by simpa using y2, by simpa using z2, fun q => ?_⟩
          subst q
          simp at nd
      obtain ⟨y, yH, z, zH, yI, zI, yz⟩ := two
      rcases few_one hf gI (by omega) (gH.2 y yH) (gH.2 z zH) yI zI yz with q | q
      · exact ⟨_, (mem _).mpr ⟨(gp_rg n).filter _, by rw [ins_len gI (gH.2 y yH) yI]; omega, q⟩, fun x hx => (mem_ins gI (gH.2 y yH)).mpr (.inl (sI x hx))⟩
      · exact ⟨_, (mem _).mpr ⟨(gp_rg n).filter _, by rw [ins_len gI (gH.2 z zH) zI]; omega, q⟩, fun x hx => (mem_ins gI (gH.2 z zH)).mpr (.inl (sI x hx))⟩
    · exact ⟨g, (mem g).mpr ⟨hg, e, ng⟩, fun x hx => hx⟩
theorem mat_pav {n : Int} {r : Nat} {gone : List (List Int)} (h0 : 0 ≤ n) (h7 : n ≤ 7) (hr : (r : Int) + 1 ≤ n) (hr0 : 0 < r) (hf : Few r gone) : Mat n (pavB n r gone) := by
  have it : ∀ {g}, Gp n g → (pavB n r gone g = true ↔ g.length < r ∨ (g.length = r ∧ g ∉ gone)) := fun hg => pav_iff h0 h7 hr hr0 hf hg
  have gnil : Gp n [] := ⟨.nil, fun x z => nomatch z⟩
  refine ⟨h0, h7, (it gnil).mpr (.inl hr0), fun P G hG hs hc => ?_, fun I J gI gJ cI cJ lt => ?_⟩
  · have := hs.length_le
    by_cases e : P.length = G.length
    · rw [hs.eq_of_length e]; exact hc
    · refine (it (hG.sub hs)).mpr (.inl ?_)
      rcases (it hG).mp hc with z | z <;> omega
  · have hI := (it gI).mp cI
    have hJ := (it gJ).mp cJ
    have p := part_len J fun x => I.contains x
    have q : (J.filter fun x => I.contains x).length ≤ I.length := ((gp_nd gJ).sublist List.filter_sublist).length_le_of_subset fun x hx => by simpa using (List.mem_filter.mp hx).2
    have nd : (J.filter fun x => !I.contains x).Nodup := (gp_nd gJ).sublist List.filter_sublist
    have fin : ∀ y ∈ J, y ∉ I → ((rgI n).filter fun k => I.contains k || k == y) ∉ gone → ∃ y ∈ J, y ∉ I ∧ pavB n r gone ((rgI n).filter fun k => I.contains k || k == y) = true := fun y yJ yI ng => by
      have li := ins_len gI (gJ.2 y yJ) yI
      refine ⟨y, yJ, yI, (it ((gp_rg n).filter _)).mpr ?_⟩
      rw [li]
      by_cases e : I.length + 1 = r
      · exact .inr ⟨e, ng⟩
      · exact .inl (by rcases hJ with z | z <;> omega)
    match e : J.filter (fun x => !I.contains x), nd with
    | [], _ => rw [e, List.length_nil] at p; omega
    | [y], _ =>
      have my : y ∈ J.filter fun x => !I.contains x := by rw [e]; simp
      obtain ⟨yJ, yI⟩ := List.mem_filter.mp my
      have yI : y ∉ I := by simpa using yI
      have li := ins_len gI (gJ.2 y yJ) yI
      rw [e] at p
      simp only [List.length_singleton] at p
      have sub : ∀ x ∈ J, x ∈ (rgI n).filter fun k => I.contains k || k == y := fun x hx => by
        refine (mem_ins gI (gJ.2 y yJ)).mpr ?_
        by_cases xI : x ∈ I
        · exact .inl xI
        · have : x ∈ J.filter fun x => !I.contains x := List.mem_filter.mpr ⟨hx, by simpa using xI⟩
          rw [e] at this
          exact .inr (List.mem_singleton.mp this)
      have eq := ((sub_iff gJ ((gp_rg n).filter _)).mpr sub).eq_of_length (by omega)
      exact ⟨y, yJ, yI, by rw [← eq]; exact cJ⟩
    | y :: z :: l, nd =>
      have my : y ∈ J.filter fun x => !I.contains x := by rw [e]; simp
      have mz : z ∈ J.filter fun x => !I.contains x := by rw [e]; simp
      obtain ⟨yJ, y2⟩ := List.mem_filter.mp my
      obtain ⟨zJ, z2⟩ := List.mem_filter.mp mz
      have yI : y ∉ I := by simpa using y2
      have zI : z ∉ I := by simpa using z2
      have yz : y ≠ z := fun q => by subst q; simp at nd
      by_cases k : I.length + 1 = r
      · rcases few_one hf gI k (gJ.2 y yJ) (gJ.2 z zJ) yI zI yz with q | q
        · exact fin y yJ yI q
        · exact fin z zJ zI q
      · have li := ins_len gI (gJ.2 y yJ) yI
        refine ⟨y, yJ, yI, (it ((gp_rg n).filter _)).mpr (.inl ?_)⟩
        rw [li]
        rcases hJ with z | z <;> omega

abbrev Vec := Nat → Int
def redF : List (Nat × Vec) → Vec → Vec
  | [], v => v
  | su :: B, v => redF B fun j => v j - v su.1 * su.2 j
theorem redF_app : ∀ (B : List (Nat × Vec)) (s : Nat) (u v : Vec) (j : Nat), redF (B ++ [(s, u)]) v j = redF B v j - redF B v s * u j
  | [], s, u, v, j => rfl
  | su :: B, s, u, v, j => redF_app B s u _ j
theorem redF_congr : ∀ (B : List (Nat × Vec)) {v v' : Vec}, (∀ j, v j = v' j) → ∀ j, redF B v j = redF B v' j
  | [], v, v', h, j => h j
  | su :: B, v, v', h, j => redF_congr B (fun i => by rw [h i, h su.1]) j
theorem redF_sm : ∀ (B : List (Nat × Vec)) (g : List Int) (c : Int → Int) (a : Int → Vec) (j : Nat), redF B (fun j => sm g fun x => c x * a x j) j = sm g fun x => c x * redF B (a x) j
  | [], g, c, a, j => rfl
  | su :: B, g, c, a, j => by
    rw [redF]
    rw [redF_congr B (v' := fun j => sm g fun x => c x * (a x j - a x su.1 * su.2 j)) (fun i => by
      rw [← sm_mulr, ← sm_sub]
      exact sm_congr fun x _ => by rw [Int.mul_sub, Int.mul_assoc]) j]
    exact redF_sm B g c (fun x j => a x j - a x su.1 * su.2 j) j
theorem redF_dvd {p : Int} {w : Nat} : ∀ (B : List (Nat × Vec)) (v : Vec), (∀ su ∈ B, su.1 < w) → (∀ j, j < w → p ∣ v j) → ∀ j, j < w → p ∣ redF B v j
  | [], v, _, h, j, hj => h j hj
  | su :: B, v, hs, h, j, hj => redF_dvd B _ (fun s hs' => hs s (List.mem_cons_of_mem _ hs')) (fun i hi => Int.dvd_sub (h i hi) (Int.dvd_trans (h su.1 (hs su List.mem_cons_self)) (Int.dvd_mul_right _ _))) j hj
def InSp (p : Int) (w : Nat) (a : Int → Vec) (g : List Int) (v : Vec) : Prop := ∃ c : Int → Int, ∀ j, j < w → p ∣ v j - sm g fun x => c x * a x j
section
variable {p : Int} {w : Nat} {a : Int → Vec} {g : List Int} {y : Int} {u v : Vec}
theorem InSp.add (h : InSp p w a g u) (k : InSp p w a g v) : InSp p w a g fun j => u j + v j := by
  obtain ⟨c, hc⟩ := h
  obtain ⟨d, hd⟩ := k
  refine ⟨fun x => c x + d x, fun j hj => ?_⟩
  have e : (sm g fun x => (c x + d x) * a x j) = (sm g fun x => c x * a x j) + sm g fun x => d x * a x j := by
    rw [← sm_add]
    exact sm_congr fun x _ => Int.add_mul _ _ _
  rw [e, show ∀ A B C D : Int, A + B - (C + D) = A - C + (B - D) from fun A B C D => by omega]
  exact Int.dvd_add (hc j hj) (hd j hj)
theorem InSp.smul (k : Int) (h : InSp p w a g u) : InSp p w a g fun j => k * u j := by
  obtain ⟨c, hc⟩ := h
  refine ⟨fun x => k * c x, fun j hj => ?_⟩
  have e : (sm g fun x => k * c x * a x j) = k * sm g fun x => c x * a x j := by
    rw [← sm_mul]
    exact sm_congr fun x _ => Int.mul_assoc _ _ _
  rw [e, ← Int.mul_sub]
  exact Int.dvd_trans (hc j hj) (Int.dvd_mul_left _ _)
theorem InSp.cong (h : InSp p w a g u) (e : ∀ j, j < w → p ∣ v j - u j) : InSp p w a g v := by
  obtain ⟨c, hc⟩ := h
  refine ⟨c, fun j hj => ?_⟩
  have := Int.dvd_add (e j hj) (hc j hj)
  rwa [show ∀ A B C : Int, A - B + (B - C) = A - C from fun A B C => by omega] at this
theorem InSp.more (h : InSp p w a g u) (ny : y ∉ g) : InSp p w a (g ++ [y]) u := by
  obtain ⟨c, hc⟩ := h
  refine ⟨fun x => if x = y then 0 else c x, fun j hj => ?_⟩
  have e : (sm (g ++ [y]) fun x => (if x = y then 0 else c x) * a x j) = sm g fun x => c x * a x j := by
    rw [sm_app, sm_cons, sm_nil, if_pos rfl, Int.zero_mul]
    rw [show ∀ A : Int, A + (0 + 0) = A from fun A => by omega]
    exact sm_congr fun x hx => by
      have : x ≠ y := fun z => ny (z ▸ hx)
      rw [if_neg this]
  rw [e]; exact hc j hj
theorem InSp.last (ny : y ∉ g) : InSp p w a (g ++ [y]) (a y) := by
  refine ⟨fun x => if x = y then 1 else 0, fun j hj => ?_⟩
  have e : (sm (g ++ [y]) fun x => (if x = y then (1 : Int) else 0) * a x j) = a y j := by
    rw [sm_app, sm_cons, sm_nil, if_pos rfl, Int.one_mul]
    have : (sm g fun x => (if x = y then (1 : Int) else 0) * a x j) = sm g fun _ => 0 := sm_congr fun x hx => by
      have : x ≠ y := fun z => ny (z ▸ hx)
      rw [if_neg this, Int.zero_mul]
    rw [this, sm_zero]; omega
  rw [e, Int.sub_self]
  exact Int.dvd_zero p
end
structure BaseOk (p : Int) (w : Nat) (a : Int → Vec) (g : List Int) (B : List (Nat × Vec)) : Prop where
  s : ∀ su ∈ B, su.1 < w
  z : ∀ x ∈ g, ∀ j, j < w → p ∣ redF B (a x) j
  r : ∀ v : Vec, InSp p w a g fun j => v j - redF B v j
theorem base_nil (p : Int) (w : Nat) (a : Int → Vec) : BaseOk p w a [] [] := ⟨fun su h => (nomatch h), fun x h => (nomatch h), fun v => ⟨fun _ => 0, fun j _ => by
  show p ∣ v j - v j - 0
  rw [Int.sub_self]
  exact Int.dvd_zero p⟩⟩
section
variable {p : Int} {w : Nat} {a : Int → Vec} {g : List Int} {y : Int} {B : List (Nat × Vec)}
theorem ind_snoc (hp : Pr p) (hB : BaseOk p w a g B) (nd : g.Nodup) (ny : y ∉ g) : Ind p w a (g ++ [y]) ↔ Ind p w a g ∧ ∃ j, j < w ∧ ¬ p ∣ redF B (a y) j := by
  have nd2 : (g ++ [y]).Nodup := by
    rw [List.nodup_append]
    exact ⟨nd, by simp, fun a ha b hb e => ny (by rw [List.mem_singleton.mp hb] at e; exact e ▸ ha)⟩
  have split : ∀ (c : Int → Int) j, (sm (g ++ [y]) fun x => c x * a x j) = (sm g fun x => c x * a x j) + c y * a y j := fun c j => by
    rw [sm_app, sm_cons, sm_nil]; omega
  constructor
  · intro h
    refine ⟨h.sub nd2 (List.sublist_append_left g [y]), Classical.byContradiction fun no => ?_⟩
    have z : ∀ j, j < w → p ∣ redF B (a y) j := fun j hj => Classical.byContradiction fun q => no ⟨j, hj, q⟩
    obtain ⟨c, hc⟩ := hB.r (a y)
    have := h (fun x => if x = y then -1 else c x) (fun j hj => by
      rw [split]
      rw [if_pos rfl]
      have e : (sm g fun x => (if x = y then -1 else c x) * a x j) = sm g fun x => c x * a x j := sm_congr fun x hx => by
        have : x ≠ y := fun z => ny (z ▸ hx)
        rw [if_neg this]
      rw [e]
      have := Int.dvd_add (hc j hj) (z j hj)
      have := Int.dvd_neg.mpr this
      rwa [show - (a y j - redF B (a y) j - (sm g fun x => c x * a x j) + redF B (a y) j) = (sm g fun x => c x * a x j) + -1 * a y j by omega] at this) y (by simp)
    rw [if_pos rfl] at this
    exact hp.one (Int.dvd_neg.mp this)
  · rintro ⟨hg, j0, hj0, nz⟩ c hc
    have main : p ∣ c y := Classical.byContradiction fun nc => by
      refine nz ?_
      have d1 : p ∣ redF B (fun j => sm (g ++ [y]) fun x => c x * a x j) j0 := redF_dvd B _ hB.s hc j0 hj0
      rw [redF_sm, sm_app, sm_cons, sm_nil] at d1
      have d2 : p ∣ sm g fun x => c x * redF B (a x) j0 := sm_dvd fun x hx => Int.dvd_trans (hB.z x hx j0 hj0) (Int.dvd_mul_left _ _)
      have d3 := Int.dvd_sub d1 d2
      rw [show ∀ A C : Int, A + (C + 0) - A = C from fun A C => by omega] at d3
      exact hp.mul d3 nc
    intro x hx
    rcases List.mem_append.mp hx with q | q
    · refine hg c (fun j hj => ?_) x q
      have := Int.dvd_sub (hc j hj) (Int.dvd_trans main (Int.dvd_mul_right _ (a y j)))
      rw [split] at this
      rwa [show ∀ A C : Int, A + C - C = A from fun A C => by omega] at this
    · rw [List.mem_singleton.mp q]; exact main
theorem base_snoc {s : Nat} {t : Int} {u : Vec} (hB : BaseOk p w a g B) (ny : y ∉ g) (hs : s < w) (ht : p ∣ t * redF B (a y) s - 1) (hu : ∀ j, j < w → p ∣ u j - t * redF B (a y) j) : BaseOk p w a (g ++ [y]) (B ++ [(s, u)]) := by
  refine ⟨fun su h => ?_, fun x hx j hj => ?_, fun v => ?_⟩
  · rcases List.mem_append.mp h with q | q
    · exact hB.s su q
    · rw [List.mem_singleton.mp q]; exact hs
  · rw [redF_app]
    rcases List.mem_append.mp hx with q | q
    · exact Int.dvd_sub (hB.z x q j hj) (Int.dvd_trans (hB.z x q s hs) (Int.dvd_mul_right _ _))
    · rw [List.mem_singleton.mp q]
      obtain ⟨m, hm⟩ := ht
      obtain ⟨k, hk⟩ := hu j hj
      refine ⟨- (m * redF B (a y) j) - redF B (a y) s * k, ?_⟩
      have e1 : u j = t * redF B (a y) j + p * k := by omega
      rw [e1, Int.mul_add, ← Int.mul_assoc, Int.mul_comm (redF B (a y) s) t, show t * redF B (a y) s = 1 + p * m by omega, Int.add_mul, Int.one_mul, Int.mul_sub, Int.mul_neg, ← Int.mul_assoc, ← Int.mul_assoc, Int.mul_comm (redF B (a y) s) p, ← Int.mul_assoc]
      omega
  · have h1 := (hB.r v).more (y := y) ny
    have h2 : InSp p w a (g ++ [y]) (redF B (a y)) := by
      refine (((InSp.last ny).add ((hB.r (a y)).more ny |>.smul (-1)))).cong fun j hj => ?_
      show p ∣ redF B (a y) j - (a y j + -1 * (a y j - redF B (a y) j))
      rw [show redF B (a y) j - (a y j + -1 * (a y j - redF B (a y) j)) = 0 by omega]
      exact Int.dvd_zero p
    refine (h1.add (h2.smul (redF B v s * t))).cong fun j hj => ?_
    show p ∣ v j - redF (B ++ [(s, u)]) v j - (v j - redF B v j + redF B v s * t * redF B (a y) j)
    rw [redF_app, Int.mul_assoc]
    obtain ⟨k, hk⟩ := hu j hj
    have e1 : u j = t * redF B (a y) j + p * k := by omega
    rw [e1, Int.mul_add]
    refine ⟨redF B v s * k, ?_⟩
    rw [← Int.mul_assoc (redF B v s) p k, Int.mul_comm (redF B v s) p, Int.mul_assoc p]
    omega
end

def g0 : Gd := ⟨fun _ => False, fun _ => False, fun _ => True, fun a h => h, fun _ _ _ _ => trivial, fun _ _ a h => h.elim⟩
theorem drt_bl {Av : Addr → Prop} {H : Hp} {f : List Int → Bool} : ∀ {gs : List (List Int)} {vs : List (List L2.Key × V)}, DRt Av H vs (gs.map fun g => (keyI g, D.bl (f g))) → vs = gs.map fun g => (keyI g, V.bl (f g))
  | [], _, .nil => rfl
  | g :: gs, _, .cons h r => by
    cases h
    rw [drt_bl r]; rfl
theorem bl_drt {Av : Addr → Prop} {H : Hp} {f : List Int → Bool} : ∀ gs : List (List Int), DRt Av H (gs.map fun g => (keyI g, V.bl (f g))) (gs.map fun g => (keyI g, D.bl (f g)))
  | [] => .nil
  | g :: gs => .cons (.bl _) (bl_drt gs)
theorem putKT {f : List Int → Bool} {g : List Int} {l : List (List Int)} (h : g ∉ l) : putK (l.map fun g => (keyI g, V.bl (f g))) (keyI g) (V.bl (f g)) = (l ++ [g]).map fun g => (keyI g, V.bl (f g)) := by
  unfold putK
  have : ((l.map fun g => (keyI g, V.bl (f g))).any fun kv => decide (kv.1 = keyI g)) = false := by
    rw [List.any_eq_false]
    intro p hp
    obtain ⟨x, hx, rfl⟩ := List.mem_map.mp hp
    simp only [decide_eq_true_eq]
    exact fun e => h (keyI_inj e ▸ hx)
  rw [this]
  simp
theorem row_at2 {rows : List (List Int)} {k : Nat} (h : k < rows.length) : rows[k]? = some (rows.getD k []) := by rw [List.getElem?_eq_getElem h]; simp [h]
theorem accD_map {f : List Int → Bool} {gs : List (List Int)} (nd : gs.Nodup) : ∀ i, i ≤ gs.length → accD (fun j => keyI (gs.getD j [])) (fun j => V.bl (f (gs.getD j []))) i = (gs.take i).map fun g => (keyI g, V.bl (f g))
  | 0, _ => by simp [accD]
  | i + 1, h => by
    have hx : gs[i]? = some (gs.getD i []) := row_at2 (by omega)
    show putK _ _ _ = _
    rw [accD_map nd i (by omega), putKT (nd_take nd hx), ← take_one hx]
theorem Rel.unSet {g : Gd} {Av B : Addr → Prop} {gh : V → D → Prop} {H0 H : Hp} {o : Nat → Addr} {σ σ' : L2.St} {st : Sx} {i : Nat} (R : Rel g Av B gh H0 o σ st H) (hn : ∀ c, st[i]? ≠ some (.ow c)) (h1 : ∀ j, j ≠ i → σ'[j]? = σ[j]?) (h2 : σ'.length = σ.length) : Rel g Av B gh H0 o σ' (st.set i .un) H := by
  have av : ∀ a, Avo Av B o (st.set i .un) a → Avo Av B o st a := fun a h => by
    rcases h with h | ⟨j, c, e1, e2⟩
    · exact .inl h
    · by_cases e : j = i
      · subst e
        by_cases q : j < st.length
        · rw [List.getElem?_set_self q] at e1; cases e1
        · rw [List.getElem?_eq_none (by rw [List.length_set]; omega)] at e1; cases e1
      · rw [List.getElem?_set_ne (Ne.symm e)] at e1
        exact .inr ⟨j, c, e1, e2⟩
  have m : Mv (Avo Av B o st) (Avo Av B o (st.set i .un)) H H := ⟨fun a u n e => ⟨fun z => n (av a z), e⟩⟩
  have back : ∀ {j : Nat} {s : Sl}, s ≠ .un → (st.set i .un)[j]? = some s → j ≠ i ∧ st[j]? = some s := fun {j s} ns e => by
    by_cases q : j = i
    · subst q
      by_cases q : j < st.length
      · rw [List.getElem?_set_self q] at e; cases e; exact absurd rfl ns
      · rw [List.getElem?_eq_none (by rw [List.length_set]; omega)] at e; cases e
    · rw [List.getElem?_set_ne (Ne.symm q)] at e
      exact ⟨q, e⟩
  refine ⟨by rw [h2, List.length_set]; exact R.len, R.kp, fun j d e => ?_, fun j c e => ?_, fun j k c e a b d => ?_, R.bt, fun v d h => (R.gho v d h).mv m⟩
  · obtain ⟨q, e⟩ := back (s := .val d) (fun z => nomatch z) e
    obtain ⟨v, e1, r⟩ := R.val j d e
    exact ⟨v, by rw [h1 j q]; exact e1, r.mv m⟩
  · obtain ⟨q, e⟩ := back (s := .ow c) (fun z => nomatch z) e
    obtain ⟨e1, e2, e3, u, e4, r⟩ := R.ow j c e
    exact ⟨by rw [h1 j q]; exact e1, e2, e3, u, e4, CR.mv m r⟩
  · obtain ⟨_, a⟩ := back (s := .ow c) (fun z => nomatch z) a
    obtain ⟨_, b⟩ := back (s := .ow e) (fun z => nomatch z) b
    exact R.inj j k c e a b d
/-- the slots while a dict is gone through: a number and the key -/
def stK (n il ix : Nat) (k : Int) (g : List Int) : Sx := ((List.replicate n Sl.un).set il (.val (.int k))).set ix (.val (tI g))
theorem stK_at {n il ix : Nat} {k : Int} {g : List Int} {j : Nat} {s : Sl} (h : (stK n il ix k g)[j]? = some s) : (j = ix ∧ s = .val (tI g)) ∨ (j = il ∧ j ≠ ix ∧ s = .val (.int k)) ∨ s = .un := by
  unfold stK at h
  by_cases e : j = ix
  · subst e
    by_cases q : j < ((List.replicate n Sl.un).set il (.val (.int k))).length
    · rw [List.getElem?_set_self q] at h; cases h; exact .inl ⟨rfl, rfl⟩
    · rw [List.getElem?_eq_none (by rw [List.length_set]; omega)] at h; cases h
  · rw [List.getElem?_set_ne (Ne.symm e)] at h
    by_cases e2 : j = il
    · subst e2
      by_cases q : j < (List.replicate n Sl.un).length
      · rw [List.getElem?_set_self q] at h; cases h; exact .inr (.inl ⟨rfl, e, rfl⟩)
      · rw [List.getElem?_eq_none (by rw [List.length_set]; omega)] at h; cases h
    · rw [List.getElem?_set_ne (Ne.symm e2)] at h
      exact .inr (.inr (List.eq_of_mem_replicate (List.mem_of_getElem? h)))
/-- for x in d: e[x] = d[x] and T -/
theorem ws_cap {g : Gd} {X : Cx} {s : Stmt} {ea : Expr} {wT : WP} (id ie ix il : Nat) (xi : id ≠ ix) (xe : ie ≠ ix) (xl : il ≠ ix) (hT : WE g0 X ea wT)
    (hp : ∀ tT, PE X ea tT → PS X s (tLock (tFor (iKeys (tVar id)) (gName ix) (sDPut (tVar ie) (tVar ix) (tAndV (tDGet (tVar id) (tVar ix)) tT))))) :
    WS g X s (fun De st => ∃ (gs : List (List Int)) (c t : List Int → Bool) (k : Int), st[id]? = some (.val (.dT (gs.map fun g => (keyI g, .bl (c g))))) ∧ st[il]? = some (.val (.int k)) ∧ st[ie]? = some (.ow (.dT [])) ∧ (∀ c, st[ix]? ≠ some (.ow c)) ∧ ix < st.length ∧ gs.Nodup ∧ gs.length ≤ 1000 ∧
      (∀ x ∈ gs, ∀ R : Bool → D → Prop, (∀ fr, R fr (.bl (t x))) → wT (stK st.length il ix k x) R) ∧ De.nx ((st.set ix .un).set ie (.ow (.dT (gs.map fun g => (keyI g, .bl (c g && t g))))))) := by
  obtain ⟨tT, pT, qT⟩ := hT
  refine ⟨_, hp tT pT, fun Av B gh H0 o σ st H E De hg F R hw K => ?_⟩
  obtain ⟨gs, c, t, k, hid, hil, hie, hix, hxl, nd, hgl, hT, hnx⟩ := hw
  obtain ⟨v, e1, r1⟩ := R.val id _ hid
  obtain ⟨vl, el, rl⟩ := R.val il _ hil
  cases rl
  obtain ⟨o1, o2, o3, u, o4, o5⟩ := R.ow ie _ hie
  obtain ⟨ws, rfl, o6⟩ := o5
  cases o6
  cases r1 with
  | dT na hd rt =>
    rename_i d kvs
    have ek := drt_bl rt
    subst ek
    have ne : d ≠ o ie := fun z => na (.inr ⟨ie, _, hie, z.symm⟩)
    refine dloop (nk := fun j => keyI (gs.getD j [])) (vl := fun j => V.bl (c (gs.getD j []) && t (gs.getD j []))) hd o4 ne (by rw [List.length_map]; exact hgl) e1 o1 xe ?_ ?_
    · intro i kk vv q od σ' H' D' hk j1 j2 hq hdf hpe hal j5 hN
      rw [List.getElem?_map] at hk
      cases hx : gs[i]? with
      | none => rw [hx] at hk; cases hk
      | some x =>
        rw [hx] at hk
        cases hk
        have mx := List.mem_of_getElem? hx
        have gx : gs.getD i [] = x := by simp [List.getD_eq_getElem?_getD, hx]
        rw [gx] at hN
        have hxl' : ix < σ'.length := by rw [j2, R.len]; exact hxl
        have sx : (σ'.set ix (some (V.ref q)))[ix]? = some (some (V.ref q)) := List.getElem?_set_self hxl'
        have sd : (σ'.set ix (some (V.ref q)))[id]? = some (some (V.ref d)) := by rw [List.getElem?_set_ne (Ne.symm xi), j1 id xi]; exact e1
        have se : (σ'.set ix (some (V.ref q)))[ie]? = some (some (V.ref (o ie))) := by rw [List.getElem?_set_ne (Ne.symm xe), j1 ie xe]; exact o1
        have sl : (σ'.set ix (some (V.ref q)))[il]? = some (some (V.int k)) := by rw [List.getElem?_set_ne (Ne.symm xl), j1 il xl]; exact el
        obtain ⟨w, hw1, hw2⟩ := (bl_drt (Av := fun _ => False) (H := H') (f := c) gs).look (.bl (c x)) (valT (f := fun g => D.bl (c g)) mx)
        cases hw2
        have fin : ∀ (b : Bool) H1, Ext H' H1 → b = (c x && t x) → (tVar ie) (σ'.set ix (some (V.ref q))) H1 fun y1 H2 => (tVar ix) (σ'.set ix (some (V.ref q))) H2 fun y H3 => ∃ a H4, y1 = .ref a ∧ DPut H3 a y (V.bl b) H4 ∧ D'.nx (σ'.set ix (some (V.ref q))) H4 := by
          intro b H1 ex eb
          refine ⟨_, se, _, sx, _, _, rfl, DPut.t (ex _ _ hpe) (ex _ _ hq) (small_line (by omega)), ?_⟩
          rw [eb]
          exact hN q H1 ex (ex _ _ hq)
        refine ⟨_, sd, _, sx, d, _, rfl, .inr ⟨_, _, q, .inr ⟨od, hdf⟩, rfl, hq, hw1.symm⟩, c x, rfl, ?_⟩
        cases ec : c x with
        | false => exact fin false H' (Ext.refl _) (by rw [ec]; rfl)
        | true =>
          have R0 : Rel g0 (fun _ => False) (fun _ => False) (fun _ _ => False) H' (fun _ => 0) (σ'.set ix (some (V.ref q))) (stK st.length il ix k x) H' := by
            refine ⟨by unfold stK; simp [j2, R.len], Kp.refl trivial, fun j dd e => ?_, fun j cc e => ?_, fun j j' cc cd e => ?_, fun a h => h.elim, fun v dd h => h.elim⟩
            · rcases stK_at e with ⟨rfl, e2⟩ | ⟨rfl, _, e2⟩ | e2
              · cases e2
                have noown : ∀ a, ¬ Avo (fun _ => False) (fun _ => False) (fun _ => 0) (stK st.length il j k x) a := fun a z => by
                  rcases z with (z | z) | ⟨jj, cc, z, _⟩
                  · exact z
                  · exact z
                  · rcases stK_at z with ⟨_, z⟩ | ⟨_, _, z⟩ | z <;> cases z
                refine ⟨_, sx, .tup (noown q) hq ?_⟩
                have : (keyI x).map L2.kV = x.map V.int := by unfold keyI; rw [List.map_map]; rfl
                rw [this]
                exact drs_ints x
              · cases e2
                exact ⟨_, sl, .int k⟩
              · cases e2
            · rcases stK_at e with ⟨_, e2⟩ | ⟨_, _, e2⟩ | e2 <;> cases e2
            · rcases stK_at e with ⟨_, e2⟩ | ⟨_, _, e2⟩ | e2 <;> cases e2
          refine qT _ _ _ H' _ _ (stK st.length il ix k x) H' _ (fun _ dd => dd = .bl (t x)) trivial ⟨fun a h => h, fun a h => h.elim⟩ R0 (hT x mx _ fun _ => rfl) fun fr dd v H1 kp r e => ?_
          subst e
          have z := r.dr
          cases z
          exact fin (t x) H1 (fun a u h => kp.1 a u h fun z => z) (by rw [ec]; rfl)
    · intro σ' H' j1 j2 j3 j4
      rw [List.length_map, accD_map (f := fun g => c g && t g) nd gs.length (Nat.le_refl _), List.take_length] at j4
      have ex : Ext H (upd H' (o ie) (.dT [])) := fun a u h => by
        by_cases q : a = o ie
        · rw [q, upd_same, ← o4, ← q, h]
        · rw [upd_ne q]; exact j3 a u q h
      have kp : Kp g H (upd H' (o ie) (.dT [])) := ⟨fun a u h _ => ex a u h, g.st H _ (fun a ha => by
        have nt := g.tr H R.kp.2 a ha
        cases q : H a with
        | none => exact absurd q nt.1
        | some u => exact ex a u q) R.kp.2⟩
      have R1 := (R.mono F kp).updOw F (ds' := .dT (gs.map fun g => (keyI g, .bl (c g && t g)))) hie ⟨_, rfl, bl_drt gs⟩
      rw [upd_upd] at R1
      have eH : upd H' (o ie) (.dT (gs.map fun g => (keyI g, V.bl (c g && t g)))) = H' := by
        funext a
        by_cases q : a = o ie
        · rw [q, upd_same, j4]
        · rw [upd_ne q]
      rw [eH] at R1
      have hix' : ∀ cc, (st.set ie (.ow (.dT (gs.map fun g => (keyI g, D.bl (c g && t g))))))[ix]? ≠ some (.ow cc) := fun cc => by
        rw [List.getElem?_set_ne xe]; exact hix cc
      have R2 := R1.unSet hix' j1 j2
      rw [List.set_comm _ _ xe] at R2
      exact K.nx o σ' _ _ R2 hnx
theorem ix_lI {os : List Int} {p : Int} {Q : RQ} (h0 : 0 ≤ p) (h1 : p.toNat < os.length) (q : Q false (.int (os.getD p.toNat 0))) : mIx (lI os) (.int p) Q := by
  obtain ⟨k, rfl⟩ := Int.eq_ofNat_of_zero_le h0
  rw [Int.toNat_natCast] at h1 q
  refine ⟨.int (os.getD k 0), atI_nat ?_, q⟩
  rw [List.getElem?_map, List.getElem?_eq_getElem h1]
  simp [h1]
theorem of_all {α : Type} {P : α → Prop} (f : α → D) : ∀ ys : List D, (∀ y ∈ ys, ∃ a, y = f a ∧ P a) → ∃ as : List α, ys = as.map f ∧ ∀ a ∈ as, P a
  | [], _ => ⟨[], rfl, fun a h => nomatch h⟩
  | y :: ys, h => by
    obtain ⟨a, rfl, ha⟩ := h y List.mem_cons_self
    obtain ⟨as, rfl, has⟩ := of_all f ys fun z hz => h z (List.mem_cons_of_mem _ hz)
    refine ⟨a :: as, rfl, fun b hb => ?_⟩
    rcases List.mem_cons.mp hb with rfl | hb
    · exact ha
    · exact has b hb
theorem getD_mem2 {os : List Int} {k : Nat} (h : k < os.length) : os.getD k 0 ∈ os := by simp [List.getD_eq_getElem?_getD, h]
theorem pop_perm : ∀ (L : List Int) (j : Nat), j < L.length → (L.getD j 0 :: L.eraseIdx j).Perm L
  | x :: L, 0, _ => .refl _
  | x :: L, j + 1, h => by
    have ih := pop_perm L j (by simpa using h)
    show (L.getD j 0 :: x :: L.eraseIdx j).Perm (x :: L)
    exact (List.Perm.swap x (L.getD j 0) _).trans (ih.cons x)
theorem getD_inj {os : List Int} (nd : os.Nodup) {i j : Nat} (hi : i < os.length) (hj : j < os.length) (e : os.getD i 0 = os.getD j 0) : i = j := by
  simp only [List.getD_eq_getElem?_getD, List.getElem?_eq_getElem hi, List.getElem?_eq_getElem hj, Option.getD_some] at e
  exact (List.getElem_inj nd).mp e
theorem sort_lt {ms ns : List Int} (hp : ms.Perm ns) (nd : ns.Nodup) (hs : ms.Pairwise (· ≤ ·)) : ms.Pairwise (· < ·) := by
  have : ms.Nodup := hp.nodup_iff.mpr nd
  exact (hs.and this).imp fun {a b} h => by omega
theorem setD64 {X : Cx} (hu : X.A.units + 64 < cLine) : PSet X L2.rSetD := L2.set_dict (by omega)
theorem cap_ps {X : Cx} {id ie ix : Nat} {tg ed1 ed2 ee ex1 ex2 T : Expr} {tT : TE} {pos pos1 pos2 pos3 pos4 : Pos} (hu : X.A.units + 64 < cLine) (hc : X.calm = true) (hd1 : PE X ed1 (tVar id)) (hd2 : PE X ed2 (tVar id)) (he : PE X ee (tVar ie)) (hx1 : PE X ex1 (tVar ix)) (hx2 : PE X ex2 (tVar ix)) (hg : PG X tg (gName ix)) (ns : NoSl ex2)
    (hT : PE X (.BoolOp .And [T] pos) tT) (hs : swapsWith (.BoolOp .And [.Subscript ed2 ex2 pos2, T] pos) (some (.Subscript ee ex1 pos1)) pos3.line X.env = pure false) (hp : PassesOwn (model X.prog X.w) X.A X.env X.xe := by exact PassesOwn.never) (hf : ∀ x, foldedSetIterable ed1 X.env x = pure x := by intro _; rfl) :
    PS X (.For tg ed1 [.Assign [.Subscript ee ex1 pos1] (.BoolOp .And [.Subscript ed2 ex2 pos2, T] pos) pos3] [] pos4) (tLock (tFor (iKeys (tVar id)) (gName ix) (sDPut (tVar ie) (tVar ix) (tAndV (tDGet (tVar id) (tVar ix)) tT)))) :=
  ps_lock (ps_for hp hc (pi_keys hd1) hg (pss_one (ps_dput (by omega) he hx1 (pe_and (pe_dget (by omega) hd2 hx2 ns) hT) hs)) hf)

def entB (su : Nat × List Int) : D := .tup [.int (su.1 : Int), lI su.2]
def vecF (rows : List (List Int)) (x : Int) (j : Nat) : Int := (rows.getD x.toNat []).getD j 0
def vB (B : List (Nat × List Int)) : List (Nat × Vec) := B.map fun su => (su.1, fun j => su.2.getD j 0)
def leftL (p : Int) : List (Nat × List Int) → List Int → List Int
  | [], row => row
  | su :: B, row => leftL p B ((row.zip su.2).map fun ab => (ab.1 - row.getD su.1 0 * ab.2) % p)
/-- a row of w numbers below p -/
structure RowOk (p : Int) (w : Nat) (r : List Int) : Prop where
  len : r.length = w
  rg : ∀ x ∈ r, 0 ≤ x ∧ x < p
structure RowsOk (n p : Int) (w : Nat) (rows : List (List Int)) : Prop where
  n0 : 0 ≤ n
  n7 : n ≤ 7
  pr : p = 2 ∨ p = 3 ∨ p = 5
  w1 : 1 ≤ w
  w4 : w ≤ 4
  len : (rows.length : Int) = n
  row : ∀ r ∈ rows, RowOk p w r
def spVec (b : Addr) (ds : List D) (Q : RQ) : Prop := ∃ n : Int, ds = [.rf b, .int n] ∧ 0 ≤ n ∧ n ≤ 7 ∧ ∀ (p : Int) (w : Nat) (rows : List (List Int)), RowsOk n p w rows → Q false (.tup [.int p, .lst (rows.map lI)])
def spLeft (ds : List D) (Q : RQ) : Prop := ∃ (p : Int) (w : Nat) (B : List (Nat × List Int)) (row : List Int), ds = [.lst (B.map entB), .int p, lI row] ∧ (p = 2 ∨ p = 3 ∨ p = 5) ∧ w ≤ 4 ∧ B.length ≤ 7 ∧ (∀ su ∈ B, su.1 < w ∧ RowOk p w su.2) ∧ RowOk p w row ∧ Q false (lI (leftL p B row))
def spCanRows (ds : List D) (Q : RQ) : Prop := ∃ (n p : Int) (w : Nat) (rows : List (List Int)), ds = [.int n, .int p, .lst (rows.map lI)] ∧ RowsOk n p w rows ∧ Q false (canM n (indB p w (vecF rows)))
def spCanCrews (ds : List D) (Q : RQ) : Prop := ∃ (n : Int) (rows : List (List Int)), ds = [.int n, lT rows] ∧ 0 ≤ n ∧ n ≤ 7 ∧ rows.length ≤ 1000 ∧ (∀ r ∈ rows, Gp n r) ∧ Q false (canM n (DW.inF rows))
def spLRest (ds : List D) (Q : RQ) : Prop := ∃ (n : Int) (r : List Int), ds = [.int n, tI r] ∧ 0 ≤ n ∧ n ≤ 7 ∧ Gp n r ∧ Q false (tI (out n r))
def spCanLeft (ds : List D) (Q : RQ) : Prop := ∃ n t, ds = [.int n, canM n t] ∧ Mat n t ∧ Q false (canM n (dualB n t))
def spCanCap (ds : List D) (Q : RQ) : Prop := ∃ n t k, ds = [canM n t, .int k] ∧ Mat n t ∧ Q false (canM n (capB t k))
def spOrder (b : Addr) (ds : List D) (Q : RQ) : Prop := ∃ n : Int, ds = [.rf b, .int n] ∧ 0 ≤ n ∧ n ≤ 7 ∧ ∀ os : List Int, os.Perm (rgI n) → Q true (lI os)
def spCalled (ds : List D) (Q : RQ) : Prop := ∃ (n : Int) (g os : List Int), ds = [tI g, lI os] ∧ 0 ≤ n ∧ n ≤ 7 ∧ Gp n g ∧ os.Perm (rgI n) ∧ ∀ r, Gp n r → (∀ x, x ∈ r ↔ ∃ y ∈ g, os.getD y.toNat 0 = x) → Q false (tI r)
def spShape (b : Addr) (ds : List D) (Q : RQ) : Prop := ds = [.rf b] ∧ ∀ n t, Mat n t → Q false (.tup [.int n, canM n t])
def spFamily (b : Addr) (ds : List D) (Q : RQ) : Prop := ∃ m : Int, ds = [.rf b, .int m] ∧ 0 ≤ m ∧ m ≤ 7 ∧ ∀ n t, n ≤ m → Mat n t → Q false (.tup [.int n, canM n t])

theorem zip_ints (r u : List Int) : zipD (r.map D.int) (u.map D.int) = (r.zip u).map fun ab => D.tup [.int ab.1, .int ab.2] := by
  unfold zipD
  rw [List.zip_map, List.map_map]
  rfl
theorem RowOk.step {p : Int} {w : Nat} {r u : List Int} {t : Int} (p0 : 0 < p) (hr : RowOk p w r) (hu : RowOk p w u) : RowOk p w ((r.zip u).map fun ab => (ab.1 - t * ab.2) % p) := by
  refine ⟨by rw [List.length_map, List.length_zip, hr.len, hu.len, Nat.min_self], fun x hx => ?_⟩
  obtain ⟨ab, _, rfl⟩ := List.mem_map.mp hx
  exact ⟨Int.emod_nonneg _ (by omega), Int.emod_lt_of_pos _ p0⟩
theorem drop_one {α : Type} {l : List α} {i : Nat} {x : α} (h : l[i]? = some x) : l.drop i = x :: l.drop (i + 1) := by
  obtain ⟨hi, e⟩ := List.getElem?_eq_some_iff.mp h
  rw [List.drop_eq_getElem_cons hi, e]
theorem RowOk.at_ {p : Int} {w : Nat} {r : List Int} (h : RowOk p w r) {j : Nat} (hj : j < w) : 0 ≤ r.getD j 0 ∧ r.getD j 0 < p := h.rg _ (getD_mem2 (by rw [h.len]; exact hj))
theorem zip_at {r u : List Int} (f : Int × Int → Int) {j : Nat} (h1 : j < r.length) (h2 : j < u.length) : ((r.zip u).map f).getD j 0 = f (r.getD j 0, u.getD j 0) := by
  have hz : j < (r.zip u).length := by rw [List.length_zip]; omega
  rw [List.getD_eq_getElem?_getD, List.getElem?_map, List.getElem?_eq_getElem hz, List.getElem_zip, List.getD_eq_getElem?_getD, List.getD_eq_getElem?_getD, List.getElem?_eq_getElem h1, List.getElem?_eq_getElem h2]
  rfl
def WfB (p : Int) (w : Nat) (B : List (Nat × List Int)) : Prop := ∀ su ∈ B, su.1 < w ∧ RowOk p w su.2
theorem left_ok {p : Int} {w : Nat} (p0 : 0 < p) : ∀ (B : List (Nat × List Int)) (row : List Int), WfB p w B → RowOk p w row → RowOk p w (leftL p B row)
  | [], _, _, h => h
  | su :: B, row, hB, h => left_ok p0 B _ (fun s hs => hB s (List.mem_cons_of_mem _ hs)) (h.step p0 (hB su List.mem_cons_self).2)
theorem left_red {p : Int} {w : Nat} (p0 : 0 < p) : ∀ (B : List (Nat × List Int)) (row : List Int) (v : Vec), WfB p w B → RowOk p w row → (∀ j, j < w → p ∣ row.getD j 0 - v j) → ∀ j, j < w → p ∣ (leftL p B row).getD j 0 - redF (vB B) v j
  | [], row, v, _, _, h, j, hj => h j hj
  | su :: B, row, v, hB, hr, h, j, hj => by
    obtain ⟨hs, hu⟩ := hB su List.mem_cons_self
    refine left_red p0 B _ (fun j => v j - v su.1 * su.2.getD j 0) (fun s hs => hB s (List.mem_cons_of_mem _ hs)) (hr.step p0 hu) (fun i hi => ?_) j hj
    rw [zip_at _ (by rw [hr.len]; exact hi) (by rw [hu.len]; exact hi)]
    show p ∣ (row.getD i 0 - row.getD su.1 0 * su.2.getD i 0) % p - (v i - v su.1 * su.2.getD i 0)
    obtain ⟨a, ha⟩ := h i hi
    obtain ⟨b, hb⟩ := h su.1 hs
    have e := Int.mul_ediv_add_emod (row.getD i 0 - row.getD su.1 0 * su.2.getD i 0) p
    refine ⟨a - b * su.2.getD i 0 - (row.getD i 0 - row.getD su.1 0 * su.2.getD i 0) / p, ?_⟩
    have e1 : row.getD su.1 0 = v su.1 + p * b := by omega
    have e2 : row.getD su.1 0 * su.2.getD i 0 = v su.1 * su.2.getD i 0 + p * (b * su.2.getD i 0) := by rw [e1, Int.add_mul, Int.mul_assoc]
    rw [Int.mul_sub, Int.mul_sub]
    omega
theorem dvd_small {p x : Int} (h0 : 0 ≤ x) (h1 : x < p) (h : p ∣ x) : x = 0 := by
  obtain ⟨k, rfl⟩ := h
  rcases (by omega : k ≤ 0 ∨ 1 ≤ k) with z | z
  · have : p * k ≤ 0 := by
      have := Int.mul_le_mul_of_nonneg_left z (show (0 : Int) ≤ p by omega)
      rwa [Int.mul_zero] at this
    omega
  · have := Int.mul_le_mul_of_nonneg_left z (show (0 : Int) ≤ p by omega)
    rw [Int.mul_one] at this
    omega
theorem pr_of {p : Int} (h : p = 2 ∨ p = 3 ∨ p = 5) : Pr p := by
  rcases h with rfl | rfl | rfl
  · exact pr2
  · exact pr3
  · exact pr5
/-- the law's base of a group -/
structure Bas (n p : Int) (w : Nat) (rows : List (List Int)) (g : List Int) (B : List (Nat × List Int)) : Prop where
  ok : BaseOk p w (vecF rows) g (vB B)
  wf : WfB p w B
  len : B.length = g.length
theorem gp_pre {n : Int} {h : List Int} {y : Int} (hg : Gp n (h ++ [y])) : Gp n h ∧ (0 ≤ y ∧ y < n) ∧ y ∉ h := by
  obtain ⟨a, b, c⟩ := gp_snoc.mp hg
  refine ⟨a, c, fun z => ?_⟩
  have := gp_nd hg
  rw [List.nodup_append] at this
  exact this.2.2 y z y (by simp) rfl
theorem row_vec {n p : Int} {w : Nat} {rows : List (List Int)} (hR : RowsOk n p w rows) {y : Int} (h0 : 0 ≤ y) (h1 : y < n) : RowOk p w (rows.getD y.toNat []) := by
  have hl := hR.len
  have hy : y.toNat < rows.length := by omega
  exact hR.row _ (List.mem_of_getElem? (row_at2 hy))
/-- nothing is left: not independent -/
theorem ind_no {n p : Int} {w : Nat} {rows : List (List Int)} {h : List Int} {y : Int} {B : List (Nat × List Int)} (hR : RowsOk n p w rows) (hg : Gp n (h ++ [y])) (hB : Bas n p w rows h B) (z : ∀ j, j < w → (leftL p B (rows.getD y.toNat [])).getD j 0 = 0) : indB p w (vecF rows) (h ++ [y]) = false := by
  obtain ⟨gh, hy, ny⟩ := gp_pre hg
  have p0 : 0 < p := by have := hR.pr; omega
  refine Bool.eq_false_iff.mpr fun e => ?_
  obtain ⟨_, j, hj, nz⟩ := (ind_snoc (pr_of hR.pr) hB.ok (gp_nd gh) ny).mp (indB_iff.mp e)
  have := left_red p0 B _ (vecF rows y) hB.wf (row_vec hR hy.1 hy.2) (fun j _ => by unfold vecF; rw [Int.sub_self]; exact Int.dvd_zero p) j hj
  rw [z j hj] at this
  have := Int.dvd_neg.mpr this
  rw [Int.neg_sub, Int.sub_zero] at this
  exact nz this
theorem ind_yes {n p : Int} {w : Nat} {rows : List (List Int)} {h : List Int} {y : Int} {B : List (Nat × List Int)} (hR : RowsOk n p w rows) (hg : Gp n (h ++ [y])) (hi : indB p w (vecF rows) h = true) (hB : Bas n p w rows h B) {s : Nat} {t : Int} (hs : s < w) (nz : (leftL p B (rows.getD y.toNat [])).getD s 0 ≠ 0)
    (ht : (t * (leftL p B (rows.getD y.toNat [])).getD s 0) % p = 1) : indB p w (vecF rows) (h ++ [y]) = true ∧ Bas n p w rows (h ++ [y]) (B ++ [(s, (leftL p B (rows.getD y.toNat [])).map fun a => (t * a) % p)]) := by
  obtain ⟨gh, hy, ny⟩ := gp_pre hg
  have p0 : 0 < p := by have := hR.pr; omega
  have hL := left_ok p0 B _ hB.wf (row_vec hR hy.1 hy.2)
  have red := left_red p0 B _ (vecF rows y) hB.wf (row_vec hR hy.1 hy.2) (fun j _ => by unfold vecF; rw [Int.sub_self]; exact Int.dvd_zero p)
  generalize hLd : leftL p B (rows.getD y.toNat []) = L at hL red nz ht
  have nd : ¬ p ∣ redF (vB B) (vecF rows y) s := fun z => by
    have := Int.dvd_add (red s hs) z
    rw [Int.sub_add_cancel] at this
    obtain ⟨a, b⟩ := hL.at_ hs
    exact nz (dvd_small a b this)
  obtain ⟨k, hk⟩ := red s hs
  have e := Int.mul_ediv_add_emod (t * L.getD s 0) p
  have tt : p ∣ t * redF (vB B) (vecF rows y) s - 1 := by
    refine ⟨(t * L.getD s 0) / p - t * k, ?_⟩
    have e1 : L.getD s 0 = redF (vB B) (vecF rows y) s + p * k := by omega
    have e2 : t * L.getD s 0 = t * redF (vB B) (vecF rows y) s + p * (t * k) := by rw [e1, Int.mul_add, ← Int.mul_assoc t p, Int.mul_comm t p, Int.mul_assoc]
    rw [Int.mul_sub]
    omega
  refine ⟨indB_iff.mpr ((ind_snoc (pr_of hR.pr) hB.ok (gp_nd gh) ny).mpr ⟨indB_iff.mp hi, s, hs, nd⟩), ?_, ?_, by rw [List.length_append, List.length_append, hB.len]; rfl⟩
  · have : vB (B ++ [(s, L.map fun a => (t * a) % p)]) = vB B ++ [(s, fun j => (L.map fun a => (t * a) % p).getD j 0)] := by unfold vB; rw [List.map_append]; rfl
    rw [this]
    refine base_snoc hB.ok ny hs tt fun j hj => ?_
    have ej : (L.map fun a => (t * a) % p).getD j 0 = (t * L.getD j 0) % p := by
      have : j < L.length := by rw [hL.len]; exact hj
      simp [List.getD_eq_getElem?_getD, this]
    rw [ej]
    obtain ⟨k, hk⟩ := red j hj
    have e := Int.mul_ediv_add_emod (t * L.getD j 0) p
    refine ⟨t * k - (t * L.getD j 0) / p, ?_⟩
    have e1 : L.getD j 0 = redF (vB B) (vecF rows y) j + p * k := by omega
    have e2 : t * L.getD j 0 = t * redF (vB B) (vecF rows y) j + p * (t * k) := by rw [e1, Int.mul_add, ← Int.mul_assoc t p, Int.mul_comm t p, Int.mul_assoc]
    rw [Int.mul_sub]
    omega
  · intro su hsu
    rcases List.mem_append.mp hsu with z | z
    · exact hB.wf su z
    · rw [List.mem_singleton.mp z]
      refine ⟨hs, by rw [List.length_map]; exact hL.len, fun x hx => ?_⟩
      obtain ⟨a, _, rfl⟩ := List.mem_map.mp hx
      exact ⟨Int.emod_nonneg _ (by omega), Int.emod_lt_of_pos _ p0⟩
theorem put_new {f : List Int → D} {x : List Int} {l : List (List Int)} {d : D} (h : x ∉ l) : putD (l.map fun g => (keyI g, f g)) (keyI x) d = (l.map fun g => (keyI g, f g)) ++ [(keyI x, d)] := by
  unfold putD
  have : ((l.map fun g => (keyI g, f g)).any fun kv => decide (kv.1 = keyI x)) = false := by
    rw [List.any_eq_false]
    intro q hq
    obtain ⟨y, hy, rfl⟩ := List.mem_map.mp hq
    simp only [decide_eq_true_eq]
    exact fun e => h (keyI_inj e ▸ hy)
  rw [this]
  simp
theorem put_again {f : List Int → D} {x : List Int} {l : List (List Int)} {d d' : D} (h : x ∉ l) : putD ((l.map fun g => (keyI g, f g)) ++ [(keyI x, d)]) (keyI x) d' = (l.map fun g => (keyI g, f g)) ++ [(keyI x, d')] := by
  unfold putD
  have : (((l.map fun g => (keyI g, f g)) ++ [(keyI x, d)]).any fun kv => decide (kv.1 = keyI x)) = true := by simp
  rw [this, if_pos rfl, List.map_append]
  congr 1
  · refine (List.map_congr_left fun kv hkv => ?_).trans (List.map_id _)
    obtain ⟨y, hy, rfl⟩ := List.mem_map.mp hkv
    have : keyI y ≠ keyI x := fun e => h (keyI_inj e ▸ hy)
    rw [if_neg this]; rfl
  · simp
theorem val_app {f : List Int → D} {g : List Int} {l : List (List Int)} {r : List (List L2.Key × D)} (h : g ∈ l) : valD ((l.map fun g => (keyI g, f g)) ++ r) (keyI g) = some (f g) := by
  have := valT (f := f) h
  unfold valD at this ⊢
  rw [List.find?_append]
  cases e : (l.map fun g => (keyI g, f g)).find? fun kv => decide (kv.1 = keyI g) with
  | none => rw [e] at this; cases this
  | some kv => rw [e] at this; exact this
theorem dget_app {f : List Int → D} {g : List Int} {l : List (List Int)} {r : List (List L2.Key × D)} {Q : RQ} (h : g ∈ l) (q : Q false (f g)) : mDGet (.dT ((l.map fun g => (keyI g, f g)) ++ r)) (tI g) Q := .inl ⟨_, keyI g, _, rfl, keyD_I g, val_app h, q⟩
theorem gp_nil (n : Int) : Gp n [] := ⟨.nil, fun x h => nomatch h⟩
theorem eq_nilT {n : Int} {x : List Int} {Q : RQ} (h : Gp n x) (h7 : n ≤ 7) (q : Q false (.bl (decide (x = [])))) : mEqF (tI x) (.tup []) Q := eq_tI h (gp_nil n) h7 q
theorem ne_nilT {n : Int} {x : List Int} {Q : RQ} (h : Gp n x) (h7 : n ≤ 7) (q : Q false (.bl (!decide (x = [])))) : mNeF (tI x) (.tup []) Q := by
  refine .inr ⟨⟨(shs_ints h h7).t, Nat.le_trans (Nat.succ_le_succ (shs_ints h h7).p) (by decide)⟩, ⟨rfl, by decide⟩, ?_⟩
  cases x with
  | nil => exact q
  | cons y ys => simpa [tI, D.py, D.pyAll, PyData.eqv, PyData.eqvAll] using q
theorem sl_pre {h : List Int} {y : Int} {Q : RQ} (q : Q false (tI h)) : mSl (tI (h ++ [y])) none (some (-1)) Q := by
  show Q false (.tup (cutD ((h ++ [y]).map D.int) none (some (-1))))
  have e : cutD ((h ++ [y]).map D.int) none (some (-1)) = h.map D.int := by
    unfold cutD
    rw [HT.sIx_none, List.length_map, List.length_append, List.length_singleton]
    have : HT.sIx (h.length + 1) (h.length + 1) (some (-1)) = h.length := by
      unfold HT.sIx
      simp
      try omega
    rw [this, List.drop_zero, Nat.sub_zero, List.map_append, List.take_left' (by rw [List.length_map])]
  rw [e]; exact q
theorem ix_rowsL {rows : List (List Int)} {y : Int} {Q : RQ} (h0 : 0 ≤ y) (h1 : y.toNat < rows.length) (q : Q false (lI (rows.getD y.toNat []))) : mIx (.lst (rows.map lI)) (.int y) Q := by
  obtain ⟨k, rfl⟩ := Int.eq_ofNat_of_zero_le h0
  rw [Int.toNat_natCast] at h1 q
  refine ⟨lI (rows.getD k []), atI_nat ?_, q⟩
  rw [List.getElem?_map, List.getElem?_eq_getElem h1]
  simp [h1]
theorem len_lI {xs : List Int} {Q : RQ} (q : Q false (.int (xs.length : Int))) : mLen [lI xs] Q := by
  show Q false (.int ((xs.map D.int).length : Int))
  rw [List.length_map]; exact q
theorem at_zero {d : D} {ds : List D} : atI (d :: ds) 0 = some d := atI_nat (j := 0) (v := d) (by simp)
theorem back_ex {p a : Int} (hp : p = 2 ∨ p = 3 ∨ p = 5) (h0 : 0 ≤ a) (h1 : a < p) (nz : a ≠ 0) : ∃ t : Nat, t < p.toNat ∧ ((t : Int) * a) % p = 1 := by
  obtain ⟨t, k, hk⟩ := (pr_of hp).inv a fun z => nz (dvd_small h0 h1 z)
  have p0 : 0 < p := by omega
  have a1 := Int.emod_nonneg t (show p ≠ 0 by omega)
  have a2 := Int.emod_lt_of_pos t p0
  refine ⟨(t % p).toNat, by omega, ?_⟩
  rw [Int.toNat_of_nonneg a1]
  have e := Int.mul_ediv_add_emod t p
  have e2 : (t % p) * a = 1 + p * (k - t / p * a) := by
    have : t % p = t - p * (t / p) := by omega
    rw [this, Int.sub_mul, Int.mul_sub, ← Int.mul_assoc p]
    omega
  rw [e2, Int.add_mul_emod_self_left]
  rcases hp with rfl | rfl | rfl <;> rfl
end DW
namespace K68
open PySem PySem.Spec PyProof.Rows L2 DW
local macro_rules | `(tactic| walk_at "dw") => `(tactic| simp only [rdS_0, rdS_s, rdO_0, rdO_1, rdO_s, startS, endD, mAdd_i, mAdd_b, mAdd_l, mAdd_t, mI_i, mIC_i, mB_i, mLen_l, mLen_t, mList_l, mList_t, mTuple_l, mTuple_t, mInt1_i, mInt1_b, mAbs_i, mIx_l, mIx_t, mSl_l, mSl_t, mSeq_l, mSeq_t, mEnum_l, mEnum_t, mFld_o, mExt_l, mRev_l, mRepr_1, put_f, put_t, frz_0, frz_1, frz_2, frz_s, wpS_0, wpS_1, DW.putAll,
  List.map_cons, List.map_nil, List.cons_append, List.nil_append, List.length_cons, List.length_nil, List.replicate_succ, List.replicate_zero, List.set_cons_zero, List.set_cons_succ, List.set_nil, Nat.reduceAdd, Nat.reduceSub, Nat.zero_add, Bool.not_true, Bool.not_false, if_true, if_false, Bool.false_eq_true, and_true, true_and, decide_eq_true_eq, eq_self, Bool.and_eq_true, Bool.or_eq_true, Bool.not_eq_true, D.bl.injEq, D.int.injEq, D.lst.injEq, D.tup.injEq, exists_eq_left', exists_eq_left, exists_eq_right])
section
variable {g : Gd} {P : Program} {w : World} {K : PySem.W.Frag} {mg : Str → Option Value} {base : Heap} {CJ CFm b c sa : Addr} {cs ns : List Int} {tr : Prop}
abbrev l_crews_s : Stmt := topS 50
theorem l_crews_sc : FnScope ["_law_size", "_law_can_here", "_law_some_here", "_law_group"] ["_law_size", "_law_can_here"] (defScope l_crews_s) := ⟨rfl, rfl, rfl, by decide +kernel, rfl, by decide +kernel, by decide +kernel⟩
theorem l_crews_ok {l_crews_f : Addr} {l_crews_fd : FuncData} (l_crews_D : Dfn K mg "_law_crews" "_law_crews" l_crews_s ["_law_size", "_law_can_here"] l_crews_f l_crews_fd) (T : Bltn mg)
    {l_groups_f : Addr} {l_groups_fd : FuncData} (l_groups_D : Dfn K mg "_law_groups" "_law_groups" l_groups_s ["_law_size"] l_groups_f l_groups_fd) (l_groups_G : FnOk P w K mg base CX0 1 l_groups_f l_groups_fd ["_law_size"] (spOf g 1 spLGroups)) : FnOk P w K mg base CX0 2 l_crews_f l_crews_fd ["_law_size", "_law_can_here"] (spOf g 2 spLCrewsM) := by
  refine def_ok l_crews_D.F l_crews_sc rfl (fun cdv A fr s H E hr =>
    (wss_cons (ws_set 2 (we_lc (own := [("_law_group", 3)]) rfl l_crews_sc.nd (wi_seq (we_call (wa_cons (we_v 0 (pv 0)) wa_nil) (fun t h => pe_call l_groups_G (hr.mono (by decide)) (by rfl) l_groups_D.m l_groups_D.F.kp l_groups_D.b .nil pass0 h))) (blkOk_by (N := ["_law_size", "_law_can_here", "_law_some_here", "_law_group"]) (sc := defScope l_crews_s) (own := [("_law_group", 3)]) (by decide +kernel)) (fun _ => (wg_name 3 (pg_name l_crews_sc.nd rfl (by first | exact Or.inl rfl | exact Or.inr rfl)))) (fun _ => (wts_one (wt_val (we_dget hr.units (wr_v 1 (pv 1)) (wr_v 3 (pv 3)))))) (fun _ => (we_v 3 (pv 3)))) (fun te h => ps_set (i := 2) l_crews_sc.nd rfl (by first | exact Or.inl rfl | exact Or.inr rfl) h))
    (wss_one (ws_ret (we_lc (own := [("_law_group", 3)]) rfl l_crews_sc.nd (wi_seq (we_v 2 (pv 2))) (blkOk_by (N := ["_law_size", "_law_can_here", "_law_some_here", "_law_group"]) (sc := defScope l_crews_s) (own := [("_law_group", 3)]) (by decide +kernel)) (fun _ => (wg_name 3 (pg_name l_crews_sc.nd rfl (by first | exact Or.inl rfl | exact Or.inr rfl)))) (fun _ => (wts_one (wt_cmp (op_eqF hr.units) s2_eqF (we_cb (war_cons (wr_v 3 (pv 3)) war_nil) sc_len (fun t h => pe_callB call_len_seq (by rfl) T.len (by decide +kernel) h)).rd (we_cb (war_cons (we_ix ix_seq s2_ix (wr_v 2 (pv 2)) (we_neg we_int).rd).rd war_nil) sc_len (fun t h => pe_callB call_len_seq (by rfl) T.len (by decide +kernel) h)).rd (nomark _)))) (fun _ => (we_v 3 (pv 3)))))))) ?_
  rintro ds Q hl ⟨n, c, rfl, h, hq⟩
  have ha := allG_gps h.n0 h.n7
  have hgl := h.gplen
  have hpl := h.pllen
  walk_at "dw"
  refine ⟨n, rfl, h.n0, h.n7, fun gs hgs => ?_⟩
  have e := allG_uniq hgs ha
  subst e
  show ((gps n).map tI).length < sizeLine ∧ wLc _ _ _ _ ((gps n).map tI) _
  refine ⟨small_line (by rw [List.length_map]; omega), wLc_map tI c tI (gps n) _ (fun G hG R1 R0 h => ?_) ?_⟩
  · walk_at "dw"
    exact dget_T (f := fun g => .bl (c g)) hG ⟨_, rfl, h⟩
  · try walk_at "dw"
    show ((plM n c).map tI).length < sizeLine ∧ wLc _ _ _ _ ((plM n c).map tI) _
    obtain ⟨b, x, ex⟩ : ∃ b x, plM n c = b ++ [x] := by
      rcases last_orT (plM n c) with z | z
      · exact absurd z (List.ne_nil_of_mem h.nilm)
      · exact z
    have up := last_max (ha.ord.sublist List.filter_sublist) ex
    have e1 : mrM n c = x.length := max_of ⟨x, by rw [ex]; simp, rfl⟩ up
    refine ⟨small_line (by rw [List.length_map]; omega), wLc_map tI (fun g => decide (g.length = x.length)) tI (plM n c) _ (fun G hG R1 R0 h => ?_) (by rw [show (plM n c).filter (fun g => decide (g.length = x.length)) = crM n c by unfold crM; rw [e1]]; exact hq)⟩
    walk_at "dw"
    refine len_tI ⟨tI x, ?_, len_tI (eq_int ⟨_, rfl, ?_⟩)⟩
    · rw [show (gps n).filter c = b ++ [x] from ex]
      exact at_lastT
    have e : decide ((G.length : Int) = (x.length : Int)) = decide (G.length = x.length) := by rw [Bool.eq_iff_iff, decide_eq_true_eq, decide_eq_true_eq]; omega
    rw [e]; exact h

abbrev l_ranks_s : Stmt := topS 49
theorem l_ranks_sc : FnScope ["_law_size", "_law_can_here", "_law_ranks_here", "_law_group", "_law_k"] ["_law_size", "_law_can_here"] (defScope l_ranks_s) := ⟨rfl, rfl, rfl, by decide +kernel, rfl, by decide +kernel, by decide +kernel⟩
theorem l_ranks_ok {l_ranks_f : Addr} {l_ranks_fd : FuncData} (l_ranks_D : Dfn K mg "_law_ranks" "_law_ranks" l_ranks_s ["_law_size", "_law_can_here"] l_ranks_f l_ranks_fd) (T : Bltn mg)
    {l_groups_f : Addr} {l_groups_fd : FuncData} (l_groups_D : Dfn K mg "_law_groups" "_law_groups" l_groups_s ["_law_size"] l_groups_f l_groups_fd) (l_groups_G : FnOk P w K mg base CX0 1 l_groups_f l_groups_fd ["_law_size"] (spOf g 1 spLGroups)) : FnOk P w K mg base CX0 2 l_ranks_f l_ranks_fd ["_law_size", "_law_can_here"] (spOf g 2 spLRanksM) := by
  refine def_ok l_ranks_D.F l_ranks_sc rfl (fun cdv A fr s H E hr =>
    (wss_cons (ws_ownDT 2 (fun te h => ps_set (i := 2) l_ranks_sc.nd rfl (by first | exact Or.inl rfl | exact Or.inr rfl) h))
    (wss_cons (ws_for rfl (wi_seq (we_call (wa_cons (we_v 0 (pv 0)) wa_nil) (fun t h => pe_call l_groups_G (hr.mono (by decide)) (by rfl) l_groups_D.m l_groups_D.F.kp l_groups_D.b .nil pass0 h))) (wg_name 3 (pg_name l_ranks_sc.nd rfl (by first | exact Or.inl rfl | exact Or.inr rfl)))
    (wss_one (ws_if (wt_val (we_dget hr.units (wr_v 1 (pv 1)) (wr_v 3 (pv 3)))) (wss_one (ws_dput 2 hr.units (we_cb (war_cons (wr_v 3 (pv 3)) war_nil) sc_len (fun t h => pe_callB call_len_seq (by rfl) T.len (by decide +kernel) h)) (pv 2) (wr_v 3 (pv 3)))) (wss_one (ws_dput 2 hr.units (we_cb (war_cons (we_lc (own := [("_law_k", 4)]) rfl l_ranks_sc.nd (wi_rg1 (we_cb (war_cons (wr_v 3 (pv 3)) war_nil) sc_len (fun t h => pe_callB call_len_seq (by rfl) T.len (by decide +kernel) h)) (by rfl) T.range) (blkOk_by (N := ["_law_size", "_law_can_here", "_law_ranks_here", "_law_group", "_law_k"]) (sc := defScope l_ranks_s) (own := [("_law_k", 4)]) (by decide +kernel)) (fun _ => (wg_name 4 (pg_name l_ranks_sc.nd rfl (by first | exact Or.inl rfl | exact Or.inr rfl)))) (fun _ => wts_nil) (fun _ => (we_dget hr.units (wr_v 2 (pv 2)) (we_bin op_addA s2_add (we_slice (wr_v 3 (pv 3)) wo_none (wo_some (we_v 4 (pv 4)))).rd (we_slice (wr_v 3 (pv 3)) (wo_some (we_bin op_addA s2_add (wr_v 4 (pv 4)) (we_int).rd)) wo_none).rd).rd))).rd war_nil) sc_max (fun t h => pe_callB (cr_max rfl) (by rfl) T.max (by decide +kernel) h)) (pv 2) (wr_v 3 (pv 3)))))))
    (wss_one (ws_retC 2 (pv 2)))))) ?_
  rintro ds Q hl ⟨n, c, rfl, h, hq⟩
  have ha := allG_gps h.n0 h.n7
  have h0 := h.n0
  have h7 := h.n7
  have hol := h.gplen
  walk_at "dw"
  refine ⟨n, rfl, h0, h7, fun out2 ha2 => ?_⟩
  have e := allG_uniq ha2 ha
  subst e
  show wFor _ _ _ ((gps n).map tI) _
  refine wFor_inv (fun i st => ∃ s3 s4, st = [.val (.int n), .val (canM n c), .ow (.dT (((gps n).take i).map fun g => (keyI g, .int (rkM n c g)))), s3, s4]) (fun _ _ _ => trivial) _ 0 _ ⟨_, _, rfl⟩ ?_ ?_
  · rintro i d hi st ⟨s3, s4, rfl⟩ K hK
    rw [Nat.zero_add] at hK ⊢
    obtain ⟨x, hx, rfl⟩ := row_at hi
    have mx := List.mem_of_getElem? hx
    have gx := (ha.mem x).mp mx
    have lx := gp_len gx h7
    have nx := gp_nd gx
    have fin : ∀ (v : Int) s4, v = rkM n c x → K [.val (.int n), .val (canM n c), .ow (.dT (putD (((gps n).take i).map fun g => (keyI g, .int (rkM n c g))) (keyI x) (.int v))), .val (tI x), s4] := by
      intro v s4 hv
      rw [hv, putT (f := fun g => .int (rkM n c g)) (nd_take ha.nd hx), ← take_one hx]
      exact hK _ ⟨_, _, rfl⟩
    walk_at "dw"
    refine dget_T (f := fun g => .bl (c g)) mx ⟨_, rfl, ?_⟩
    cases z : c x with
    | true =>
      rw [if_pos rfl]
      refine ⟨⟨_, rfl⟩, len_tI (.inl ⟨_, keyI x, rfl, keyD_I x, small_line (by simp; omega), fin _ _ (h.rk_in gx z).symm⟩)⟩
    | false =>
      rw [if_neg (by simp)]
      obtain ⟨⟨k0, hk0, e0⟩, up⟩ := h.rk_out gx z
      refine ⟨⟨_, rfl⟩, len_tI ⟨_, rfl, rg62_nat (by omega) (by omega), small_line (by simp; omega), ?_⟩⟩
      rw [Int.toNat_natCast]
      refine wLc_all (fun k : Nat => D.int (0 + (k : Int))) (fun k => D.int (rkM n c (x.eraseIdx k))) (List.range x.length) _ (fun k hk R h => ?_) ?_
      · rw [List.mem_range] at hk
        simp only [Int.zero_add]
        walk_at "dw"
        have hb := before ha.ord hx ((ha.mem _).mpr (gp_erase gx k)) (by rw [List.length_eraseIdx, if_pos hk]; omega)
        exact cuts_tI (Q := fun _ y => mDGet _ y fun _ d => R d) (by omega) (dget_T (f := fun g => .int (rkM n c g)) hb h)
      · refine ⟨(List.range x.length).map fun k => rkM n c (x.eraseIdx k), by rw [List.map_map]; rfl, by rw [List.length_map, List.length_range]; omega, fun m hm hle => ?_⟩
        refine .inl ⟨_, keyI x, rfl, keyD_I x, small_line (by simp; omega), fin _ _ ?_⟩
        obtain ⟨k, hk, rfl⟩ := List.mem_map.mp hm
        rw [List.mem_range] at hk
        have a := hle (rkM n c x) (List.mem_map.mpr ⟨k0, List.mem_range.mpr hk0, e0⟩)
        have b := up k hk
        show rkM n c (x.eraseIdx k) = rkM n c x
        have a' : rkM n c x ≤ rkM n c (x.eraseIdx k) := a
        omega
  · rintro st ⟨s3, s4, rfl⟩
    rw [Nat.zero_add, List.length_map, List.take_length]
    exact ⟨_, rfl, hq⟩

end
end K68
namespace K68
open PySem PySem.Spec PyProof.Rows L2 DW
local macro_rules | `(tactic| walk_at "dw") => `(tactic| simp only [rdS_0, rdS_s, rdO_0, rdO_1, rdO_s, startS, endD, mAdd_i, mAdd_b, mAdd_l, mAdd_t, mI_i, mIC_i, mB_i, mLen_l, mLen_t, mList_l, mList_t, mTuple_l, mTuple_t, mInt1_i, mInt1_b, mAbs_i, mIx_l, mIx_t, mSl_l, mSl_t, mSeq_l, mSeq_t, mEnum_l, mEnum_t, mFld_o, mExt_l, mRev_l, mRepr_1, put_f, put_t, frz_0, frz_1, frz_2, frz_s, wpS_0, wpS_1, DW.putAll,
  List.map_cons, List.map_nil, List.cons_append, List.nil_append, List.length_cons, List.length_nil, List.replicate_succ, List.replicate_zero, List.set_cons_zero, List.set_cons_succ, List.set_nil, Nat.reduceAdd, Nat.reduceSub, Nat.zero_add, Bool.not_true, Bool.not_false, if_true, if_false, Bool.false_eq_true, and_true, true_and, decide_eq_true_eq, eq_self, Bool.and_eq_true, Bool.or_eq_true, Bool.not_eq_true, D.bl.injEq, D.int.injEq, D.lst.injEq, D.tup.injEq, exists_eq_left', exists_eq_left, exists_eq_right])
section
variable {g : Gd} {P : Program} {w : World} {K : PySem.W.Frag} {mg : Str → Option Value} {base : Heap} {CJ CFm b c sa : Addr} {cs ns : List Int} {tr : Prop}
abbrev l_vectors_s : Stmt := topS 52
theorem l_vectors_sc : FnScope ["_law_bag_here", "_law_size", "_law_prime", "_law_wide", "_law_k", "_law_p"] ["_law_bag_here", "_law_size"] (defScope l_vectors_s) := ⟨rfl, rfl, rfl, by decide +kernel, rfl, by decide +kernel, by decide +kernel⟩
theorem l_vectors_ok {l_vectors_f : Addr} {l_vectors_fd : FuncData} (l_vectors_D : Dfn K mg "_law_vectors" "_law_vectors" l_vectors_s ["_law_bag_here", "_law_size"] l_vectors_f l_vectors_fd) (T : Bltn mg)
    {l_one_f : Addr} {l_one_fd : FuncData} (l_one_D : Dfn K mg "_law_one" "_law_one" l_one_s ["_law_bag_here", "_law_things"] l_one_f l_one_fd) (l_one_G : FnOk P w K mg base CX0 2 l_one_f l_one_fd ["_law_bag_here", "_law_things"] (spOf (Bg b c cs) 2 (spOne b)))
    {l_take_f : Addr} {l_take_fd : FuncData} (l_take_D : Dfn K mg "_law_take" "_law_take" l_take_s ["_law_bag_here", "_law_many"] l_take_f l_take_fd) (l_take_G : FnOk P w K mg base CX0 1 l_take_f l_take_fd ["_law_bag_here", "_law_many"] (spOf (Bg b c cs) 2 (spTake b))) : FnOk P w K mg base CX0 3 l_vectors_f l_vectors_fd ["_law_bag_here", "_law_size"] (spOf (Bg b c cs) 2 (spVec b)) := by
  refine def_ok l_vectors_D.F l_vectors_sc rfl (fun cdv A fr s H E hr =>
    (wss_cons (ws_asg (we_tup (wa_cons (we_call (wa_cons (we_v 0 (pv 0)) (wa_cons (we_lst (wa_cons we_int (wa_cons we_int (wa_cons we_int (wa_cons we_int wa_nil))))) wa_nil)) (fun t h => pe_call l_one_G (hr.mono (by decide)) (by rfl) l_one_D.m l_one_D.F.kp l_one_D.b .nil pass0 h)) (wa_cons (we_bin op_addA s2_add (we_int).rd (we_call (wa_cons (we_v 0 (pv 0)) (wa_cons we_int wa_nil)) (fun t h => pe_call l_take_G (hr.mono (by decide)) (by rfl) l_take_D.m l_take_D.F.kp l_take_D.b .nil pass0 h)).rd) wa_nil))) (wg_tup [2, 3] rfl (pg_tup rfl (pgs_cons (pg_name (i := 2) l_vectors_sc.nd rfl (by first | exact Or.inl rfl | exact Or.inr rfl)) (pgs_cons (pg_name (i := 3) l_vectors_sc.nd rfl (by first | exact Or.inl rfl | exact Or.inr rfl)) pgs_nil)))) (fun te tt h h2 => ps_asg h h2))
    (wss_one (ws_ret (we_tup (wa_cons (we_v 2 (pv 2)) (wa_cons (we_lc (own := [("_law_p", 5)]) rfl l_vectors_sc.nd (wi_rg1 (we_v 1 (pv 1)) (by rfl) T.range) (blkOk_by (N := ["_law_bag_here", "_law_size", "_law_prime", "_law_wide", "_law_k", "_law_p"]) (sc := defScope l_vectors_s) (own := [("_law_p", 5)]) (by decide +kernel)) (fun _ => (wg_name 5 (pg_name l_vectors_sc.nd rfl (by first | exact Or.inl rfl | exact Or.inr rfl)))) (fun _ => wts_nil) (fun _ => (we_lc (own := [("_law_k", 4)]) rfl l_vectors_sc.nd (wi_rg1 (we_v 3 (pv 3)) (by rfl) T.range) (blkOk_by (N := ["_law_bag_here", "_law_size", "_law_prime", "_law_wide", "_law_k", "_law_p"]) (sc := relS _ (defScope l_vectors_s)) (own := [("_law_k", 4)]) (by decide +kernel)) (fun _ => (wg_name 4 (pg_name l_vectors_sc.nd rfl (by first | exact Or.inl rfl | exact Or.inr rfl)))) (fun _ => wts_nil) (fun _ => (we_call (wa_cons (we_v 0 (pv 0)) (wa_cons (we_v 2 (pv 2)) wa_nil)) (fun t h => pe_call l_take_G (hr.mono (by decide)) (by rfl) l_take_D.m l_take_D.F.kp l_take_D.b .nil pass0 h)))))) wa_nil))))))) ?_
  rintro ds Q hl ⟨n, rfl, h0, h7, hq⟩
  walk_at "dw"
  refine ⟨le_line (by decide), _, rfl, by simp, by decide, fun d hd => ?_⟩
  obtain ⟨p, rfl, hp⟩ : ∃ p : Int, d = .int p ∧ (p = 2 ∨ p = 3 ∨ p = 5) := by
    simp only [List.mem_cons, List.not_mem_nil, or_false] at hd
    rcases hd with rfl | rfl | rfl | rfl <;> exact ⟨_, rfl, by decide⟩
  clear hd
  refine ⟨4, rfl, by decide, by decide, fun y y0 y4 => ?_⟩
  try walk_at "dw"
  obtain ⟨w0, rfl⟩ := Int.eq_ofNat_of_zero_le y0
  refine ⟨le_line (by decide), rg62_nat h0 (by omega), small_line (by simp; omega), ?_⟩
  refine wLc_any (fun i : Nat => D.int (0 + (i : Int))) (fun d => ∃ r, d = lI r ∧ RowOk p (w0 + 1) r) _ _ (fun i hi R h => ?_) fun ys hyl hy => ?_
  · walk_at "dw"
    refine ⟨rg62_nat (by omega) (by omega), small_line (by simp; omega), ?_⟩
    refine wLc_any (fun i : Nat => D.int (0 + (i : Int))) (fun d => ∃ x : Int, d = .int x ∧ 0 ≤ x ∧ x < p) _ _ (fun i hi R h => ?_) fun zs hzl hz => ?_
    · walk_at "dw"
      exact ⟨p, rfl, by omega, by omega, fun x x0 xp => h _ ⟨x, rfl, x0, xp⟩⟩
    · obtain ⟨xs, rfl, hxs⟩ := of_all D.int zs hz
      have l1 : xs.length = (1 + (w0 : Int)).toNat := by simpa using hzl
      exact h _ ⟨xs, rfl, by omega, hxs⟩
  · obtain ⟨rs, rfl, hrs⟩ := of_all lI ys hy
    have : rs.length = n.toNat := by simpa using hyl
    exact ⟨le_line (by decide), hq p (w0 + 1) rs ⟨h0, h7, hp, by omega, by omega, by omega, hrs⟩⟩

abbrev l_left_s : Stmt := topS 53
theorem l_left_sc : FnScope ["_law_base", "_law_prime", "_law_row", "_law_at", "_law_one_here", "_law_times", "_law_a", "_law_b"] ["_law_base", "_law_prime", "_law_row"] (defScope l_left_s) := ⟨rfl, rfl, rfl, by decide +kernel, rfl, by decide +kernel, by decide +kernel⟩
theorem l_left_ok {l_left_f : Addr} {l_left_fd : FuncData} (l_left_D : Dfn K mg "_law_left" "_law_left" l_left_s ["_law_base", "_law_prime", "_law_row"] l_left_f l_left_fd) (T : Bltn mg) : FnOk P w K mg base CX0 1 l_left_f l_left_fd ["_law_base", "_law_prime", "_law_row"] (spOf g 3 spLeft) := by
  refine def_ok l_left_D.F l_left_sc rfl (fun cdv A fr s H E hr =>
    (wss_cons (ws_for rfl (wi_seq (we_v 0 (pv 0))) (wg_tup [3, 4] rfl (pg_tup rfl (pgs_cons (pg_name (i := 3) l_left_sc.nd rfl (by first | exact Or.inl rfl | exact Or.inr rfl)) (pgs_cons (pg_name (i := 4) l_left_sc.nd rfl (by first | exact Or.inl rfl | exact Or.inr rfl)) pgs_nil))))
    (wss_cons (ws_set 5 (we_ix ix_seq s2_ix (wr_v 2 (pv 2)) (wr_v 3 (pv 3))) (fun te h => ps_set (i := 5) l_left_sc.nd rfl (by first | exact Or.inl rfl | exact Or.inr rfl) h))
    (wss_one (ws_setLc (own := [("_law_a", 6), ("_law_b", 7)]) 2 false rfl l_left_sc.nd rfl rfl (sw_true rfl rfl rfl (by decide +kernel)) (wi_zip2 (we_v 2 (pv 2)) (we_v 4 (pv 4)) (by rfl) T.zip) (blkOk_by (N := ["_law_base", "_law_prime", "_law_row", "_law_at", "_law_one_here", "_law_times", "_law_a", "_law_b"]) (sc := defScope l_left_s) (own := [("_law_a", 6), ("_law_b", 7)]) (by decide +kernel)) (fun _ => (wg_tup [6, 7] rfl (pg_tup rfl (pgs_cons (pg_name (i := 6) l_left_sc.nd rfl (by first | exact Or.inl rfl | exact Or.inr rfl)) (pgs_cons (pg_name (i := 7) l_left_sc.nd rfl (by first | exact Or.inl rfl | exact Or.inr rfl)) pgs_nil))))) (fun _ => wts_nil) (fun _ => (we_bin op_mod s2_IC (we_cb (war_cons (we_bin op_sub s2_I (wr_v 6 (pv 6)) (we_bin op_mulA s2_mul (wr_v 5 (pv 5)) (wr_v 7 (pv 7))).rd).rd war_nil) sc_int1 (fun t h => pe_callTy call_int1 (by rfl) T.int (by decide +kernel) h)).rd (wr_v 1 (pv 1))))))))
    (wss_one (ws_ret (we_v 2 (pv 2)))))) ?_
  rintro ds Q hl ⟨p, w, B, row, rfl, hp, hw, hBl, hB, hrow, hq⟩
  have p0 : 0 < p := by omega
  walk_at "dw"
  show wFor _ _ _ (B.map entB) _
  refine wFor_inv (fun i st => ∃ (r : List Int) (s3 s4 s5 s6 s7 : Sl), st = [.val (.lst (B.map entB)), .val (.int p), .val (lI r), s3, s4, s5, s6, s7] ∧ RowOk p w r ∧ leftL p (B.drop i) r = leftL p B row) (fun _ _ _ => trivial) _ 0 _ ⟨row, _, _, _, _, _, rfl, hrow, by rw [List.drop_zero]⟩ ?_ ?_
  · rintro i d hi st ⟨r, s3, s4, s5, s6, s7, rfl, hr, he⟩ K hK
    rw [Nat.zero_add] at hK he
    rw [List.getElem?_map] at hi
    cases hx : B[i]? with
    | none => rw [hx] at hi; cases hi
    | some su =>
      rw [hx] at hi
      cases hi
      obtain ⟨hs, hu⟩ := hB su (List.mem_of_getElem? hx)
      refine ⟨_, rfl, rfl, ?_⟩
      simp only [DW.putAll]
      walk_at "dw"
      refine ix_lI (p := (su.1 : Int)) (by omega) (by rw [Int.toNat_natCast, hr.len]; exact hs) ?_
      rw [Int.toNat_natCast]
      show (zipD (r.map D.int) (su.2.map D.int)).length < sizeLine ∧ wLc _ _ _ _ (zipD (r.map D.int) (su.2.map D.int)) _
      rw [zip_ints]
      refine ⟨small_line (by rw [List.length_map, List.length_zip, hr.len]; omega), wLc_all (fun ab : Int × Int => D.tup [.int ab.1, .int ab.2]) (fun ab => D.int ((ab.1 - r.getD su.1 0 * ab.2) % p)) _ _ (fun ab hab R h => ?_) ?_⟩
      · refine ⟨_, rfl, rfl, ?_⟩
        simp only [DW.putAll]
        walk_at "dw"
        have := hu.rg ab.2 (List.of_mem_zip hab).2
        refine ⟨.inr ⟨by omega, by omega⟩, ?_⟩
        try walk_at "dw"
        exact ⟨p0, h⟩
      · have e : ((r.zip su.2).map fun ab => D.int ((ab.1 - r.getD su.1 0 * ab.2) % p)) = ((r.zip su.2).map fun ab => (ab.1 - r.getD su.1 0 * ab.2) % p).map D.int := by rw [List.map_map]; rfl
        rw [e]
        refine hK _ ⟨(r.zip su.2).map fun ab => (ab.1 - r.getD su.1 0 * ab.2) % p, _, _, _, _, _, rfl, hr.step p0 hu, ?_⟩
        rw [← he, drop_one hx]
        rfl
  · rintro st ⟨r, s3, s4, s5, s6, s7, rfl, hr, he⟩
    rw [Nat.zero_add, List.length_map, List.drop_length] at he
    walk_at "dw"
    rw [← he] at hq
    exact hq

abbrev l_can_rows_s : Stmt := topS 54
theorem l_can_rows_sc : FnScope ["_law_size", "_law_prime", "_law_rows", "_law_can_here", "_law_bases", "_law_group", "_law_base", "_law_left_here", "_law_spots", "_law_at", "_law_back", "_law_t", "_law_unit", "_law_a"] ["_law_size", "_law_prime", "_law_rows"] (defScope l_can_rows_s) := ⟨rfl, rfl, rfl, by decide +kernel, rfl, by decide +kernel, by decide +kernel⟩
theorem l_can_rows_ok {l_can_rows_f : Addr} {l_can_rows_fd : FuncData} (l_can_rows_D : Dfn K mg "_law_can_rows" "_law_can_rows" l_can_rows_s ["_law_size", "_law_prime", "_law_rows"] l_can_rows_f l_can_rows_fd) (T : Bltn mg)
    {l_groups_f : Addr} {l_groups_fd : FuncData} (l_groups_D : Dfn K mg "_law_groups" "_law_groups" l_groups_s ["_law_size"] l_groups_f l_groups_fd) (l_groups_G : FnOk P w K mg base CX0 1 l_groups_f l_groups_fd ["_law_size"] (spOf g 1 spLGroups))
    {l_left_f : Addr} {l_left_fd : FuncData} (l_left_D : Dfn K mg "_law_left" "_law_left" l_left_s ["_law_base", "_law_prime", "_law_row"] l_left_f l_left_fd) (l_left_G : FnOk P w K mg base CX0 1 l_left_f l_left_fd ["_law_base", "_law_prime", "_law_row"] (spOf g 3 spLeft)) : FnOk P w K mg base CX0 2 l_can_rows_f l_can_rows_fd ["_law_size", "_law_prime", "_law_rows"] (spOf g 3 spCanRows) := by
  refine def_ok l_can_rows_D.F l_can_rows_sc rfl (fun cdv A fr s H E hr =>
    (wss_cons (ws_parDD 3 4 (by decide) (fun t1 t2 h1 h2 => ps_par rfl l_can_rows_sc.nd rfl rfl (by decide) rfl rfl (pa_cons h1 (pa_cons h2 pa_nil)) (by rfl)))
    (wss_cons (ws_for rfl (wi_seq (we_call (wa_cons (we_v 0 (pv 0)) wa_nil) (fun t h => pe_call l_groups_G (hr.mono (by decide)) (by rfl) l_groups_D.m l_groups_D.F.kp l_groups_D.b .nil pass0 h))) (wg_name 5 (pg_name l_can_rows_sc.nd rfl (by first | exact Or.inl rfl | exact Or.inr rfl)))
    (wss_cons (ws_dput2 3 4 (we_cmp (op_eqF hr.units) s2_eqF (wr_v 5 (pv 5)) (we_tup wa_nil).rd (nomark _)) (we_lst wa_nil) (wr_v 5 (pv 5)) (wr_v 5 (pv 5)) (fun t1 t2 s1 s2 h1 h2 h3 h4 => ps_asg (pe_tup (pa_cons h1 (pa_cons h2 pa_nil))) (pg_tup rfl (pgs_cons (pg_sub (pv 3) h3 (setD64 hr.units)) (pgs_cons (pg_sub (pv 4) h4 (setD64 hr.units)) pgs_nil)))))
    (wss_one (ws_if (ww_t (ww_and (wt_cmp (op_neF hr.units) s2_neF (wr_v 5 (pv 5)) (we_tup wa_nil).rd (nomark _)) (ww_and1 (wt_val (we_dget hr.units (wr_v 3 (pv 3)) (we_slice (wr_v 5 (pv 5)) wo_none (wo_some (we_neg we_int))).rd))))) (wss_cons (ws_set 6 (we_dget hr.units (wr_v 4 (pv 4)) (we_slice (wr_v 5 (pv 5)) wo_none (wo_some (we_neg we_int))).rd) (fun te h => ps_set (i := 6) l_can_rows_sc.nd rfl (by first | exact Or.inl rfl | exact Or.inr rfl) h))
    (wss_cons (ws_set 7 (we_call (wa_cons (we_v 6 (pv 6)) (wa_cons (we_v 1 (pv 1)) (wa_cons (we_ix ix_seq s2_ix (wr_v 2 (pv 2)) (we_ix ix_seq s2_ix (wr_v 5 (pv 5)) (we_neg we_int).rd).rd) wa_nil))) (fun t h => pe_call l_left_G (hr.mono (by decide)) (by rfl) l_left_D.m l_left_D.F.kp l_left_D.b .nil pass0 h)) (fun te h => ps_set (i := 7) l_can_rows_sc.nd rfl (by first | exact Or.inl rfl | exact Or.inr rfl) h))
    (wss_cons (ws_set 8 (we_lc (own := [("_law_at", 9)]) rfl l_can_rows_sc.nd (wi_rg1 (we_cb (war_cons (wr_v 7 (pv 7)) war_nil) sc_len (fun t h => pe_callB call_len_seq (by rfl) T.len (by decide +kernel) h)) (by rfl) T.range) (blkOk_by (N := ["_law_size", "_law_prime", "_law_rows", "_law_can_here", "_law_bases", "_law_group", "_law_base", "_law_left_here", "_law_spots", "_law_at", "_law_back", "_law_t", "_law_unit", "_law_a"]) (sc := defScope l_can_rows_s) (own := [("_law_at", 9)]) (by decide +kernel)) (fun _ => (wg_name 9 (pg_name l_can_rows_sc.nd rfl (by first | exact Or.inl rfl | exact Or.inr rfl)))) (fun _ => (wts_one (wt_cmp (op_neF hr.units) s2_neF (we_ix ix_seq s2_ix (wr_v 7 (pv 7)) (wr_v 9 (pv 9))).rd (we_int).rd (nomark _)))) (fun _ => (we_v 9 (pv 9)))) (fun te h => ps_set (i := 8) l_can_rows_sc.nd rfl (by first | exact Or.inl rfl | exact Or.inr rfl) h))
    (wss_one (ws_if (wt_cmp (op_neF hr.units) s2_neF (wr_v 8 (pv 8)) (we_lst wa_nil).rd (nomark _)) (wss_cons (ws_set 10 (we_ix ix_seq s2_ix (we_lc (own := [("_law_t", 11)]) rfl l_can_rows_sc.nd (wi_rg1 (we_v 1 (pv 1)) (by rfl) T.range) (blkOk_by (N := ["_law_size", "_law_prime", "_law_rows", "_law_can_here", "_law_bases", "_law_group", "_law_base", "_law_left_here", "_law_spots", "_law_at", "_law_back", "_law_t", "_law_unit", "_law_a"]) (sc := defScope l_can_rows_s) (own := [("_law_t", 11)]) (by decide +kernel)) (fun _ => (wg_name 11 (pg_name l_can_rows_sc.nd rfl (by first | exact Or.inl rfl | exact Or.inr rfl)))) (fun _ => (wts_one (wt_cmp (op_eqF hr.units) s2_eqF (we_bin op_mod s2_IC (we_cb (war_cons (we_bin op_mulA s2_mul (wr_v 11 (pv 11)) (we_ix ix_seq s2_ix (wr_v 7 (pv 7)) (we_ix ix_seq s2_ix (wr_v 8 (pv 8)) (we_int).rd).rd).rd).rd war_nil) sc_int1 (fun t h => pe_callTy call_int1 (by rfl) T.int (by decide +kernel) h)).rd (wr_v 1 (pv 1))).rd (we_int).rd (nomark _)))) (fun _ => (we_v 11 (pv 11)))).rd (we_int).rd) (fun te h => ps_set (i := 10) l_can_rows_sc.nd rfl (by first | exact Or.inl rfl | exact Or.inr rfl) h))
    (wss_cons (ws_setLc (own := [("_law_a", 13)]) 12 false rfl l_can_rows_sc.nd rfl rfl (sw_true rfl rfl rfl (by decide +kernel)) (wi_seq (we_v 7 (pv 7))) (blkOk_by (N := ["_law_size", "_law_prime", "_law_rows", "_law_can_here", "_law_bases", "_law_group", "_law_base", "_law_left_here", "_law_spots", "_law_at", "_law_back", "_law_t", "_law_unit", "_law_a"]) (sc := defScope l_can_rows_s) (own := [("_law_a", 13)]) (by decide +kernel)) (fun _ => (wg_name 13 (pg_name l_can_rows_sc.nd rfl (by first | exact Or.inl rfl | exact Or.inr rfl)))) (fun _ => wts_nil) (fun _ => (we_bin op_mod s2_IC (we_cb (war_cons (we_bin op_mulA s2_mul (wr_v 10 (pv 10)) (wr_v 13 (pv 13))).rd war_nil) sc_int1 (fun t h => pe_callTy call_int1 (by rfl) T.int (by decide +kernel) h)).rd (wr_v 1 (pv 1)))))
    (wss_one (ws_dput2 3 4 we_bl (we_bin op_addA s2_add (wr_v 6 (pv 6)) (we_lst (wa_cons (we_tup (wa_cons (we_ix ix_seq s2_ix (wr_v 8 (pv 8)) (we_int).rd) (wa_cons (we_v 12 (pv 12)) wa_nil))) wa_nil)).rd) (wr_v 5 (pv 5)) (wr_v 5 (pv 5)) (fun t1 t2 s1 s2 h1 h2 h3 h4 => ps_asg (pe_tup (pa_cons h1 (pa_cons h2 pa_nil))) (pg_tup rfl (pgs_cons (pg_sub (pv 3) h3 (setD64 hr.units)) (pgs_cons (pg_sub (pv 4) h4 (setD64 hr.units)) pgs_nil)))))))) wss_nil))))) wss_nil))))
    (wss_one (ws_retC 3 (pv 3)))))) ?_
  rintro ds Q hl ⟨n, p, w, rows, rfl, hR, hq⟩
  have h0 := hR.n0
  have h7 := hR.n7
  have hRl := hR.len
  have hpr := hR.pr
  have w1 := hR.w1
  have w4 := hR.w4
  have p0 : 0 < p := by omega
  have ha := allG_gps h0 h7
  have hol := ha.len
  walk_at "dw"
  refine ⟨n, rfl, h0, h7, fun out2 ha2 => ?_⟩
  have e := allG_uniq ha2 ha
  subst e
  show wFor _ _ _ ((gps n).map tI) _
  refine wFor_inv (fun i st => ∃ (bs : List Int → List (Nat × List Int)) (s5 s6 s7 s8 s9 s10 s11 s12 s13 : Sl), st = [.val (.int n), .val (.int p), .val (.lst (rows.map lI)), .ow (.dT (((gps n).take i).map fun g => (keyI g, .bl (indB p w (vecF rows) g)))), .ow (.dT (((gps n).take i).map fun g => (keyI g, .lst ((bs g).map entB)))), s5, s6, s7, s8, s9, s10, s11, s12, s13] ∧
    ∀ g ∈ (gps n).take i, indB p w (vecF rows) g = true → Bas n p w rows g (bs g)) (fun _ _ _ => trivial) _ 0 _ ⟨fun _ => [], _, _, _, _, _, _, _, _, _, rfl, fun g h => nomatch h⟩ ?_ ?_
  · rintro i d hi st ⟨bs, s5, s6, s7, s8, s9, s10, s11, s12, s13, rfl, hb⟩ K hK
    rw [Nat.zero_add] at hK hb ⊢
    obtain ⟨x, hx, rfl⟩ := row_at hi
    have mx := List.mem_of_getElem? hx
    have gx := (ha.mem x).mp mx
    have lx := gp_len gx h7
    have nx := nd_take ha.nd hx
    have fin : ∀ (c : Bool) (B : List (Nat × List Int)) (s6 s7 s8 s9 s10 s11 s12 s13 : Sl), c = indB p w (vecF rows) x → (c = true → Bas n p w rows x B) →
        K [.val (.int n), .val (.int p), .val (.lst (rows.map lI)), .ow (.dT ((((gps n).take i).map fun g => (keyI g, .bl (indB p w (vecF rows) g))) ++ [(keyI x, .bl c)])), .ow (.dT ((((gps n).take i).map fun g => (keyI g, .lst ((bs g).map entB))) ++ [(keyI x, .lst (B.map entB))])), .val (tI x), s6, s7, s8, s9, s10, s11, s12, s13] := by
      intro c B s6 s7 s8 s9 s10 s11 s12 s13 hc hB
      have := hK _ ⟨fun h => if h = x then B else bs h, .val (tI x), s6, s7, s8, s9, s10, s11, s12, s13, rfl, fun g hg hi => by
        rw [take_one hx] at hg
        rcases List.mem_append.mp hg with z | z
        · have : g ≠ x := fun q => nx (q ▸ z)
          show Bas n p w rows g (if g = x then B else bs g)
          rw [if_neg this]
          exact hb g z hi
        · rw [List.mem_singleton.mp z] at hi ⊢
          show Bas n p w rows x (if x = x then B else bs x)
          rw [if_pos rfl]
          exact hB (hc.trans hi)⟩
      rw [take_one hx, List.map_append, List.map_append] at this
      have e1 : (((gps n).take i).map fun g => (keyI g, D.lst (((fun h => if h = x then B else bs h) g).map entB))) = ((gps n).take i).map fun g => (keyI g, D.lst ((bs g).map entB)) := List.map_congr_left fun g hg => by
        have : g ≠ x := fun q => nx (q ▸ hg)
        simp only [if_neg this]
      rw [e1] at this
      simp only [List.map_cons, List.map_nil, if_true] at this
      rw [hc]
      exact this
    walk_at "dw"
    refine ⟨⟨_, rfl⟩, ⟨_, rfl⟩, Nat.zero_le _, eq_nilT gx h7 ⟨Nat.zero_le _, _, keyI x, rfl, keyD_I x, small_line (by simp; omega), ⟨_, rfl⟩, _, keyI x, rfl, keyD_I x, small_line (by simp; omega), ?_⟩⟩
    rw [put_new nx, put_new nx]
    refine ⟨Nat.zero_le _, ne_nilT gx h7 ⟨_, rfl, ?_⟩⟩
    rcases last_or (a := x) with rfl | ⟨h, y, rfl⟩
    · rw [if_neg (by simp)]
      exact fin (decide (([] : List Int) = [])) [] _ _ _ _ _ _ _ _ (by rw [(mat_lin (p := p) (w := w) (a := vecF rows) (pr_of hpr) h0 h7).nil]; rfl) fun _ => ⟨base_nil _ _ _, fun su z => (nomatch z), rfl⟩
    · obtain ⟨gh, hy, ny⟩ := gp_pre gx
      have hmem : h ∈ (gps n).take i := before ha.ord hx ((ha.mem h).mpr gh) (by simp)
      rw [if_pos (by simp)]
      rw [rdO_c]
      refine sl_pre (dget_app hmem ⟨_, rfl, ?_⟩)
      cases hih : indB p w (vecF rows) h with
      | false =>
        rw [if_neg (by simp)]
        refine fin (decide (h ++ [y] = [])) [] _ _ _ _ _ _ _ _ ?_ fun z => ?_
        · have : indB p w (vecF rows) (h ++ [y]) = false := Bool.eq_false_iff.mpr fun z => by
            rw [indB_iff.mpr ((indB_iff.mp z).sub (gp_nd gx) (List.sublist_append_left h [y]))] at hih
            cases hih
          rw [this]; simp
        · simp at z
      | true =>
        rw [if_pos rfl]
        have hB := hb h hmem hih
        have hrow := row_vec hR hy.1 hy.2
        have hlh : h.length ≤ 7 := gp_len gh h7
        rw [rdO_c]
        refine sl_pre (dget_app hmem ?_)
        refine ix_last (ix_rowsL hy.1 (by omega) ⟨p, w, bs h, _, rfl, hpr, w4, by rw [hB.len]; exact hlh, hB.wf, hrow, ?_⟩)
        have hL := left_ok p0 (bs h) _ hB.wf hrow
        have no := ind_no hR gx hB
        have yes := fun s t => ind_yes (s := s) (t := t) hR gx hih hB
        generalize leftL p (bs h) (rows.getD y.toNat []) = L at hL no yes
        refine len_lI ⟨_, rfl, rg62_nat (by omega) (by rw [hL.len]; omega), small_line (by rw [List.length_map, List.length_range, Int.toNat_natCast, hL.len]; omega), ?_⟩
        rw [Int.toNat_natCast, hL.len]
        refine wLc_map (fun k : Nat => D.int (0 + (k : Int))) (fun k => decide (L.getD k 0 ≠ 0)) (fun k => D.int (0 + (k : Int))) (List.range w) _ (fun k hk R1 R0 h' => ?_) ?_
        · rw [List.mem_range] at hk
          walk_at "dw"
          refine ix_lI (by omega) (by rw [hL.len]; omega) (ne_int ⟨_, rfl, ?_⟩)
          rw [show (0 + (k : Int)).toNat = k by omega]
          have e : (!decide (L.getD k 0 = 0)) = decide (L.getD k 0 ≠ 0) := by simp
          rw [e]
          exact h'
        · have hsp : ∀ k, k ∈ (List.range w).filter (fun k => decide (L.getD k 0 ≠ 0)) ↔ k < w ∧ L.getD k 0 ≠ 0 := fun k => by
            rw [List.mem_filter, List.mem_range, decide_eq_true_eq]
          have hsl := List.length_filter_le (fun k => decide (L.getD k 0 ≠ 0)) (List.range w)
          rw [List.length_range] at hsl
          generalize (List.range w).filter (fun k => decide (L.getD k 0 ≠ 0)) = sp at hsp hsl
          refine ⟨Nat.zero_le _, ne_nil (shs_map (k := 4) (fun k : Nat => D.int (0 + (k : Int))) sp (fun k hk => sh_int (by have := ((hsp k).mp hk).1; omega)) (by omega)) (by decide) ⟨_, rfl, ?_⟩⟩
          cases sp with
          | nil =>
            rw [if_neg (by simp)]
            refine fin (decide (h ++ [y] = [])) [] _ _ _ _ _ _ _ _ ?_ fun z => ?_
            · rw [no fun j hj => Classical.byContradiction fun q => nomatch (hsp j).mpr ⟨hj, q⟩]
              simp
            · simp at z
          | cons s ss =>
            rw [if_pos (by simp)]
            obtain ⟨hs, nz⟩ := (hsp s).mp List.mem_cons_self
            obtain ⟨ls0, lsp⟩ := hL.at_ hs
            refine ⟨rg62_nat (by omega) (by omega), small_line (by rw [List.length_map, List.length_range]; omega), ?_⟩
            refine wLc_map (fun t : Nat => D.int (0 + (t : Int))) (fun t => decide (((t : Int) * L.getD s 0) % p = 1)) (fun t => D.int (0 + (t : Int))) (List.range p.toNat) _ (fun t ht R1 R0 h' => ?_) ?_
            · rw [List.mem_range] at ht
              walk_at "dw"
              refine ⟨.int (0 + (s : Int)), at_zero, ?_⟩
              refine ix_lI (by omega) (by rw [hL.len]; omega) ⟨.inl ⟨by omega, by omega⟩, ?_⟩
              try walk_at "dw"
              refine ⟨p0, eq_int ⟨_, rfl, ?_⟩⟩
              rw [show (0 + (s : Int)).toNat = s by omega, Int.zero_add]
              rw [Int.zero_add] at h'
              exact h'
            · have hall : ∀ t : Nat, t ∈ (List.range p.toNat).filter (fun t : Nat => decide (((t : Int) * L.getD s 0) % p = 1)) ↔ t < p.toNat ∧ ((t : Int) * L.getD s 0) % p = 1 := fun t => by
                rw [List.mem_filter, List.mem_range, decide_eq_true_eq]
              obtain ⟨t0, ht0⟩ := back_ex hpr ls0 lsp nz
              generalize (List.range p.toNat).filter (fun t : Nat => decide (((t : Int) * L.getD s 0) % p = 1)) = tl at hall
              cases tl with
              | nil => exact absurd ((hall t0).mpr ht0) (by simp)
              | cons t tt =>
                obtain ⟨ht1, ht2⟩ := (hall t).mp List.mem_cons_self
                refine ⟨.int (0 + (t : Int)), at_zero, ?_⟩
                show (L.map D.int).length < sizeLine ∧ wLc _ _ _ _ (L.map D.int) _
                refine ⟨small_line (by rw [List.length_map, hL.len]; omega), wLc_all D.int (fun a => D.int (((0 + (t : Int)) * a) % p)) L _ (fun a ha R h' => ?_) ?_⟩
                · walk_at "dw"
                  refine ⟨.inl ⟨by omega, by omega⟩, ?_⟩
                  try walk_at "dw"
                  exact ⟨p0, h'⟩
                · have hy2 := yes s t hs nz ht2
                  have hlb := hB.len
                  refine ⟨⟨_, rfl⟩, ⟨_, rfl⟩, .int (0 + (s : Int)), at_zero, le_line (by decide), le_line (by decide), ⟨le_line (by simp; omega), ?_⟩⟩
                  refine ⟨_, keyI (h ++ [y]), rfl, keyD_I _, small_line (by simp; omega), ⟨_, rfl⟩, _, keyI (h ++ [y]), rfl, keyD_I _, small_line (by simp; omega), ?_⟩
                  rw [put_again nx, put_again nx]
                  have := fin true (bs h ++ [(s, L.map fun a => ((t : Int) * a) % p)]) (.val (.lst ((bs h).map entB))) (.val (lI L)) (.val (.lst ((s :: ss).map fun (k : Nat) => D.int (0 + (k : Int))))) s9 (.val (.int (0 + (t : Int)))) s11 (.val (.lst (L.map fun a => D.int (((0 + (t : Int)) * a) % p)))) s13 hy2.1.symm fun _ => hy2.2
                  have e3 : (bs h ++ [(s, L.map fun a => ((t : Int) * a) % p)]).map entB = (bs h).map entB ++ [D.tup [.int (0 + (s : Int)), .lst (L.map fun a => D.int (((0 + (t : Int)) * a) % p))]] := by
                    rw [List.map_append, Int.zero_add, Int.zero_add]
                    simp only [List.map_cons, List.map_nil, entB, lI, List.map_map]
                    rfl
                  rw [e3] at this
                  exact this
  · rintro st ⟨bs, s5, s6, s7, s8, s9, s10, s11, s12, s13, rfl, hb⟩
    rw [Nat.zero_add, List.length_map, List.take_length]
    exact ⟨_, rfl, hq⟩

abbrev l_rest_s : Stmt := topS 51
theorem l_rest_sc : FnScope ["_law_size", "_law_group", "_law_p"] ["_law_size", "_law_group"] (defScope l_rest_s) := ⟨rfl, rfl, rfl, by decide +kernel, rfl, by decide +kernel, by decide +kernel⟩
theorem l_rest_ok {l_rest_f : Addr} {l_rest_fd : FuncData} (l_rest_D : Dfn K mg "_law_rest" "_law_rest" l_rest_s ["_law_size", "_law_group"] l_rest_f l_rest_fd) (T : Bltn mg) : FnOk P w K mg base CX0 1 l_rest_f l_rest_fd ["_law_size", "_law_group"] (spOf g 2 spLRest) := by
  refine def_ok l_rest_D.F l_rest_sc rfl (fun cdv A fr s H E hr =>
    (wss_one (ws_ret (we_cb (war_cons (we_lc (own := [("_law_p", 2)]) rfl l_rest_sc.nd (wi_rg1 (we_v 0 (pv 0)) (by rfl) T.range) (blkOk_by (N := ["_law_size", "_law_group", "_law_p"]) (sc := defScope l_rest_s) (own := [("_law_p", 2)]) (by decide +kernel)) (fun _ => (wg_name 2 (pg_name l_rest_sc.nd rfl (by first | exact Or.inl rfl | exact Or.inr rfl)))) (fun _ => (wts_one (wt_cmp op_notIn_seq s2_in (wr_v 2 (pv 2)) (wr_v 1 (pv 1)) (by rfl)))) (fun _ => (we_v 2 (pv 2)))).rd war_nil) sc_tuple (fun t h => pe_callTy call_tuple_of (by rfl) T.tuple (by decide +kernel) h))))) ?_
  rintro ds Q hl ⟨n, r, rfl, h0, h7, hg, hq⟩
  walk_at "dw"
  refine ⟨rg62_nat (by omega) (by omega), small_line (by simp; omega), ?_⟩
  rw [rg0 n]
  refine wLc_map D.int (fun x => !r.contains x) D.int (rgI n) _ (fun x hx R1 R0 h => ?_) ?_
  · walk_at "dw"
    exact in_tI ⟨_, rfl, h⟩
  · exact hq

end
end K68
namespace DW
open PySem PySem.Spec PyProof.Rows L2

def shapeL : Nat → List (List Int)
  | 0 => [[0, 1], [2, 3], [4, 5]]
  | 1 => [[0, 1, 2], [0, 3, 4], [0, 5, 6]]
  | 2 => [[0, 1, 2], [0, 3, 4], [1, 3, 5], [2, 4, 5]]
  | 3 => [[0, 1, 2], [0, 3, 4], [0, 5, 6], [1, 3, 5], [1, 4, 6], [2, 3, 6], [2, 4, 5]]
  | 4 => [[0, 1, 2, 3], [0, 1, 4, 5], [2, 3, 4, 5], [0, 2, 4, 6]]
  | 5 => [[0, 1, 2, 3], [0, 1, 4, 5], [2, 3, 4, 5]]
  | _ => [[0, 1, 2, 6], [0, 3, 4, 6], [1, 3, 5, 6], [2, 4, 5, 6]]
def shapeN : Nat → Int
  | 0 => 6 | 1 => 7 | 2 => 6 | 3 => 7 | 4 => 7 | 5 => 6 | _ => 7
def shapeR : Nat → Nat
  | 0 => 2 | 1 => 3 | 2 => 3 | 3 => 3 | _ => 4
theorem shape_gp : ∀ k : Fin 7, ∀ A ∈ shapeL k.val, A.Pairwise (· < ·) ∧ ∀ x ∈ A, 0 ≤ x ∧ x < shapeN k.val := by decide +kernel
theorem shape_few : ∀ k : Fin 7, ∀ A ∈ shapeL k.val, ∀ B ∈ shapeL k.val, A ≠ B → (A.filter fun x => B.contains x).length + 2 ≤ shapeR k.val := by decide +kernel
theorem shape_len : ∀ k : Fin 7, (shapeL k.val).length ≤ 7 := by decide +kernel
theorem shape_r : ∀ k : Fin 7, (shapeR k.val : Int) + 1 ≤ shapeN k.val ∧ 0 < shapeR k.val ∧ shapeR k.val ≤ 4 := by decide +kernel
def Img (n : Int) (os A r : List Int) : Prop := Gp n r ∧ ∀ x, x ∈ r ↔ ∃ y ∈ A, os.getD y.toNat 0 = x
theorem few_img {n : Int} {r : Nat} {os : List Int} {L G : List (List Int)} (hp : os.Perm (rgI n)) (hg : ∀ A ∈ L, Gp n A) (hf : Few r L) (hG : ∀ B ∈ G, ∃ A ∈ L, Img n os A B) : Few r G := by
  intro A' hA' B' hB' ne
  obtain ⟨A, hA, gA', iA⟩ := hG A' hA'
  obtain ⟨B, hB, gB', iB⟩ := hG B' hB'
  have nAB : A ≠ B := fun e => ne (rise_uniq gA'.1 gB'.1 fun k => by rw [iA, iB, e])
  have h1 := hf A hA B hB nAB
  have no : os.Nodup := hp.nodup_iff.mpr (gp_nd (gp_rg n))
  have lo := hp.length_eq
  rw [rgI_len] at lo
  have h2 : (A'.filter fun x => B'.contains x).length ≤ ((A.filter fun x => B.contains x).map fun y => os.getD y.toNat 0).length := ((gp_nd gA').sublist List.filter_sublist).length_le_of_subset fun x hx => by
    obtain ⟨xA, xB⟩ := List.mem_filter.mp hx
    obtain ⟨y, yA, rfl⟩ := (iA x).mp xA
    obtain ⟨z, zB, e⟩ := (iB _).mp (by simpa using xB)
    have y2 := (hg A hA).2 y yA
    have z2 := (hg B hB).2 z zB
    have := getD_inj no (by omega) (by omega) e
    have : z = y := by omega
    exact List.mem_map.mpr ⟨y, List.mem_filter.mpr ⟨yA, by simpa [this] using zB⟩, rfl⟩
  rw [List.length_map] at h2
  omega
end DW
namespace K68
open PySem PySem.Spec PyProof.Rows L2 DW
local macro_rules | `(tactic| walk_at "dw") => `(tactic| simp only [rdS_0, rdS_s, rdO_0, rdO_1, rdO_s, startS, endD, mAdd_i, mAdd_b, mAdd_l, mAdd_t, mI_i, mIC_i, mB_i, mLen_l, mLen_t, mList_l, mList_t, mTuple_l, mTuple_t, mInt1_i, mInt1_b, mAbs_i, mIx_l, mIx_t, mSl_l, mSl_t, mSeq_l, mSeq_t, mEnum_l, mEnum_t, mFld_o, mExt_l, mRev_l, mRepr_1, put_f, put_t, frz_0, frz_1, frz_2, frz_s, wpS_0, wpS_1, DW.putAll,
  List.map_cons, List.map_nil, List.cons_append, List.nil_append, List.length_cons, List.length_nil, List.replicate_succ, List.replicate_zero, List.set_cons_zero, List.set_cons_succ, List.set_nil, Nat.reduceAdd, Nat.reduceSub, Nat.zero_add, Bool.not_true, Bool.not_false, if_true, if_false, Bool.false_eq_true, and_true, true_and, decide_eq_true_eq, eq_self, Bool.and_eq_true, Bool.or_eq_true, Bool.not_eq_true, D.bl.injEq, D.int.injEq, D.lst.injEq, D.tup.injEq, exists_eq_left', exists_eq_left, exists_eq_right])
section
variable {g : Gd} {P : Program} {w : World} {K : PySem.W.Frag} {mg : Str → Option Value} {base : Heap} {CJ CFm b c sa : Addr} {cs ns : List Int} {tr : Prop}
end
end K68
namespace K68
open PySem PySem.Spec PyProof.Rows L2 DW
local macro_rules | `(tactic| walk_at "dw") => `(tactic| simp only [rdS_0, rdS_s, rdO_0, rdO_1, rdO_s, startS, endD, mAdd_i, mAdd_b, mAdd_l, mAdd_t, mI_i, mIC_i, mB_i, mLen_l, mLen_t, mList_l, mList_t, mTuple_l, mTuple_t, mInt1_i, mInt1_b, mAbs_i, mIx_l, mIx_t, mSl_l, mSl_t, mSeq_l, mSeq_t, mEnum_l, mEnum_t, mFld_o, mExt_l, mRev_l, mRepr_1, put_f, put_t, frz_0, frz_1, frz_2, frz_s, wpS_0, wpS_1, DW.putAll,
  List.map_cons, List.map_nil, List.cons_append, List.nil_append, List.length_cons, List.length_nil, List.replicate_succ, List.replicate_zero, List.set_cons_zero, List.set_cons_succ, List.set_nil, Nat.reduceAdd, Nat.reduceSub, Nat.zero_add, Bool.not_true, Bool.not_false, if_true, if_false, Bool.false_eq_true, and_true, true_and, decide_eq_true_eq, eq_self, Bool.and_eq_true, Bool.or_eq_true, Bool.not_eq_true, D.bl.injEq, D.int.injEq, D.lst.injEq, D.tup.injEq, exists_eq_left', exists_eq_left, exists_eq_right])
section
variable {g : Gd} {P : Program} {w : World} {K : PySem.W.Frag} {mg : Str → Option Value} {base : Heap} {CJ CFm b c sa : Addr} {cs ns : List Int} {tr : Prop}
end
end K68
namespace DW
open PySem PySem.Spec PyProof.Rows L2

structure RkP (r : (Int → Bool) → Int) : Prop where
  zero : r (fun _ => false) = 0
  mono : ∀ p q : Int → Bool, (∀ x, p x = true → q x = true) → r p ≤ r q
  one : ∀ (p : Int → Bool) (e : Int), r (fun x => p x || x == e) ≤ r p + 1
  sub : ∀ p q : Int → Bool, r (fun x => p x || q x) + r (fun x => p x && q x) ≤ r p + r q
theorem RkP.con {r : (Int → Bool) → Int} (h : RkP r) {e : Int} (he : r (fun x => x == e) = 1) : RkP fun p => r (fun x => p x || x == e) - 1 := by
  refine ⟨?_, fun p q hpq => ?_, fun p f => ?_, fun p q => ?_⟩
  · show r (fun x => false || x == e) - 1 = 0
    rw [show (fun x : Int => false || x == e) = fun x => x == e from funext fun x => Bool.false_or _, he]
    rfl
  · have := h.mono (fun x => p x || x == e) (fun x => q x || x == e) fun x hx => by
      simp only [Bool.or_eq_true] at hx ⊢
      exact hx.imp (hpq x) id
    show r (fun x => p x || x == e) - 1 ≤ r (fun x => q x || x == e) - 1
    omega
  · have := h.one (fun x => p x || x == e) f
    rw [show (fun x : Int => (p x || x == e) || x == f) = fun x => (p x || x == f) || x == e from funext fun x => by cases p x <;> cases x == e <;> cases x == f <;> rfl] at this
    show r (fun x => (p x || x == f) || x == e) - 1 ≤ r (fun x => p x || x == e) - 1 + 1
    omega
  · have := h.sub (fun x => p x || x == e) (fun x => q x || x == e)
    rw [show (fun x : Int => (p x || x == e) || (q x || x == e)) = fun x => (p x || q x) || x == e from funext fun x => by cases p x <;> cases q x <;> cases x == e <;> rfl,
      show (fun x : Int => (p x || x == e) && (q x || x == e)) = fun x => (p x && q x) || x == e from funext fun x => by cases p x <;> cases q x <;> cases x == e <;> rfl] at this
    show r (fun x => (p x || q x) || x == e) - 1 + (r (fun x => (p x && q x) || x == e) - 1) ≤ r (fun x => p x || x == e) - 1 + (r (fun x => q x || x == e) - 1)
    omega
theorem RkP.loop {r : (Int → Bool) → Int} (h : RkP r) {e : Int} (he : r (fun x => x == e) ≤ 0) (p : Int → Bool) : r (fun x => p x || x == e) ≤ r p := by
  have a := h.sub p fun x => x == e
  have b := h.mono (fun _ => false) (fun x => p x && x == e) fun x hx => nomatch hx
  rw [h.zero] at b
  omega
/-- the longest part that is free in both, and a parting that shows it -/
theorem common_minmax : ∀ (S : List Int), S.Nodup → ∀ (r1 r2 : (Int → Bool) → Int), RkP r1 → RkP r2 → ∃ I A : Int → Bool, (∀ x, I x = true → x ∈ S) ∧ (∀ x, A x = true → x ∈ S) ∧ r1 I = ((S.filter I).length : Int) ∧ r2 I = ((S.filter I).length : Int) ∧ r1 A + r2 (fun x => S.contains x && !A x) ≤ ((S.filter I).length : Int)
  | [], _, r1, r2, h1, h2 => by
    refine ⟨fun _ => false, fun _ => false, (fun x hx => nomatch hx), (fun x hx => nomatch hx), h1.zero, h2.zero, ?_⟩
    rw [show (fun x : Int => ([] : List Int).contains x && !false) = fun _ => false from rfl, h1.zero, h2.zero]
    exact Int.le_refl _
  | e :: S, nd, r1, r2, h1, h2 => by
    rw [List.nodup_cons] at nd
    obtain ⟨I, A, hI, hA, i1, i2, le⟩ := common_minmax S nd.2 r1 r2 h1 h2
    have eA : A e = false := Bool.eq_false_iff.mpr fun z => nd.1 (hA e z)
    have eI : I e = false := Bool.eq_false_iff.mpr fun z => nd.1 (hI e z)
    have lI : ((e :: S).filter I).length = (S.filter I).length := by rw [List.filter_cons_of_neg (by simp [eI])]
    have neE : ∀ x, x ∈ S → (x == e) = false := fun x hx => by
      rw [beq_eq_false_iff_ne]
      exact fun z => nd.1 (z ▸ hx)
    by_cases z1 : r1 (fun x => x == e) ≤ 0
    · refine ⟨I, fun x => A x || x == e, fun x hx => List.mem_cons_of_mem _ (hI x hx), fun x hx => ?_, by rw [lI]; exact i1, by rw [lI]; exact i2, ?_⟩
      · simp only [Bool.or_eq_true, beq_iff_eq] at hx
        rcases hx with z | z
        · exact List.mem_cons_of_mem _ (hA x z)
        · rw [z]; exact List.mem_cons_self
      · rw [lI]
        have a := h1.loop z1 A
        rw [show (fun x : Int => (e :: S).contains x && !(A x || x == e)) = fun x => S.contains x && !A x from funext fun x => by
          rw [List.contains_cons]
          cases q : x == e with
          | false => simp
          | true =>
            rw [beq_iff_eq] at q
            subst q
            have : S.contains x = false := by simpa using nd.1
            rw [this]
            simp]
        omega
    · by_cases z2 : r2 (fun x => x == e) ≤ 0
      · refine ⟨I, A, fun x hx => List.mem_cons_of_mem _ (hI x hx), fun x hx => List.mem_cons_of_mem _ (hA x hx), by rw [lI]; exact i1, by rw [lI]; exact i2, ?_⟩
        rw [lI]
        have a := h2.loop z2 fun x => S.contains x && !A x
        rw [show (fun x : Int => (e :: S).contains x && !A x) = fun x => (S.contains x && !A x) || x == e from funext fun x => by
          rw [List.contains_cons]
          cases q : x == e with
          | false => simp
          | true =>
            rw [beq_iff_eq] at q
            subst q
            rw [eA]
            simp]
        omega
      · have one1 : r1 (fun x => x == e) = 1 := by
          have := h1.one (fun _ => false) e
          rw [h1.zero, show (fun x : Int => false || x == e) = fun x => x == e from funext fun x => Bool.false_or _] at this
          omega
        have one2 : r2 (fun x => x == e) = 1 := by
          have := h2.one (fun _ => false) e
          rw [h2.zero, show (fun x : Int => false || x == e) = fun x => x == e from funext fun x => Bool.false_or _] at this
          omega
        obtain ⟨J, B, hJ, hB, j1, j2, jle⟩ := common_minmax S nd.2 _ _ (h1.con one1) (h2.con one2)
        dsimp only at j1 j2 jle
        have eB : B e = false := Bool.eq_false_iff.mpr fun z => nd.1 (hB e z)
        have lJ : ((e :: S).filter fun x => J x || x == e).length = (S.filter J).length + 1 := by
          rw [List.filter_cons_of_pos (by simp), List.length_cons]
          congr 2
          exact List.filter_congr fun x hx => by rw [neE x hx, Bool.or_false]
        have s1 := h1.sub A fun x => B x || x == e
        have s2 := h2.sub (fun x => S.contains x && !A x) fun x => (S.contains x && !B x) || x == e
        -- the two partings
        have e1 : (fun x : Int => A x && (B x || x == e)) = fun x => A x && B x := funext fun x => by
          cases q : x == e with
          | false => simp
          | true =>
            rw [beq_iff_eq] at q
            subst q
            rw [eA]
            rfl
        have e2 : (fun x : Int => (S.contains x && !A x) || ((S.contains x && !B x) || x == e)) = fun x => (e :: S).contains x && !(A x && B x) := funext fun x => by
          rw [List.contains_cons]
          cases q : x == e with
          | false => cases S.contains x <;> cases A x <;> cases B x <;> rfl
          | true =>
            rw [beq_iff_eq] at q
            subst q
            rw [eA, eB]
            simp
        have e3 : (fun x : Int => (S.contains x && !A x) && ((S.contains x && !B x) || x == e)) = fun x => (e :: S).contains x && !(A x || (B x || x == e)) := funext fun x => by
          rw [List.contains_cons]
          cases q : x == e with
          | false => cases S.contains x <;> cases A x <;> cases B x <;> rfl
          | true =>
            rw [beq_iff_eq] at q
            subst q
            have : S.contains x = false := by simpa using nd.1
            rw [this]
            simp
        rw [e1] at s1
        rw [e2, e3] at s2
        -- the better of the two
        obtain ⟨K, hK, k1, k2, kI, kJ⟩ : ∃ K : Int → Bool, (∀ x, K x = true → x ∈ e :: S) ∧ r1 K = (((e :: S).filter K).length : Int) ∧ r2 K = (((e :: S).filter K).length : Int) ∧ (S.filter I).length ≤ ((e :: S).filter K).length ∧ (S.filter J).length + 1 ≤ ((e :: S).filter K).length := by
          by_cases q : (S.filter J).length + 1 ≤ (S.filter I).length
          · exact ⟨I, fun x hx => List.mem_cons_of_mem _ (hI x hx), by rw [lI]; exact i1, by rw [lI]; exact i2, by rw [lI]; exact Nat.le_refl _, by rw [lI]; exact q⟩
          · refine ⟨fun x => J x || x == e, fun x hx => ?_, by rw [lJ]; omega, by rw [lJ]; omega, by rw [lJ]; omega, by rw [lJ]; exact Nat.le_refl _⟩
            simp only [Bool.or_eq_true, beq_iff_eq] at hx
            rcases hx with z | z
            · exact List.mem_cons_of_mem _ (hJ x z)
            · rw [z]; exact List.mem_cons_self
        by_cases q : r1 (fun x => A x && B x) + r2 (fun x => (e :: S).contains x && !(A x && B x)) ≤ (((e :: S).filter K).length : Int)
        · exact ⟨K, fun x => A x && B x, hK, fun x hx => by
            simp only [Bool.and_eq_true] at hx
            exact List.mem_cons_of_mem _ (hA x hx.1), k1, k2, q⟩
        · refine ⟨K, fun x => A x || (B x || x == e), hK, fun x hx => ?_, k1, k2, by
            show r1 (fun x => A x || (B x || x == e)) + r2 (fun x => (e :: S).contains x && !(A x || (B x || x == e))) ≤ (((e :: S).filter K).length : Int)
            omega⟩
          simp only [Bool.or_eq_true, beq_iff_eq] at hx
          rcases hx with z | z | z
          · exact List.mem_cons_of_mem _ (hA x z)
          · exact List.mem_cons_of_mem _ (hB x z)
          · rw [z]; exact List.mem_cons_self

section
variable {n : Int} {c : List Int → Bool}
theorem rk_geM (h : Mat n c) {g P : List Int} (hg : Gp n g) (hP : Gp n P) (cP : c P = true) (s : ∀ x ∈ P, x ∈ g) : (P.length : Int) ≤ rkM n c g := by
  obtain ⟨k, hk, hs⟩ := inF_iff.mp (show DW.inF (crM n c) P = true by rw [h.inF hP]; exact cP)
  have lp : P.length ≤ (g.filter fun x => k.contains x).length := (gp_nd hP).length_le_of_subset fun x hx => List.mem_filter.mpr ⟨s x hx, by simpa using hs x hx⟩
  have q := le_rkF (P := g) hk
  unfold rkM
  omega
theorem rk_atM (h : Mat n c) {g : List Int} (hg : Gp n g) : ∃ P, Gp n P ∧ c P = true ∧ (∀ x ∈ P, x ∈ g) ∧ (P.length : Int) = rkM n c g := by
  obtain ⟨b, hb, hr⟩ := rkF_at g h.fam.ne
  have gb := (h.memc.mp hb).1
  have gi : Gp n (g.filter fun x => b.contains x) := hg.sub List.filter_sublist
  exact ⟨_, gi, h.sub _ b gb.1 ((sub_iff gi gb.1).mpr fun x hx => by simpa using (List.mem_filter.mp hx).2) gb.2, fun x hx => (List.mem_filter.mp hx).1, by unfold rkM; rw [hr]⟩
theorem ext_toM (h : Mat n c) {J : List Int} (hJ : Gp n J) (cJ : c J = true) : ∀ (k : Nat) (I : List Int), Gp n I → c I = true → J.length - I.length = k → ∃ I', Gp n I' ∧ c I' = true ∧ (∀ x ∈ I, x ∈ I') ∧ (∀ x ∈ I', x ∈ I ∨ x ∈ J) ∧ J.length ≤ I'.length := by
  intro k
  induction k with
  | zero => exact fun I hI cI hk => ⟨I, hI, cI, fun x hx => hx, fun x hx => .inl hx, by omega⟩
  | succ k ih =>
    intro I hI cI hk
    obtain ⟨y, yJ, yI, cy⟩ := h.aug I J hI hJ cI cJ (by omega)
    have hy := hJ.2 y yJ
    have li := ins_len hI hy yI
    obtain ⟨I', a, b, d, e, f⟩ := ih _ ((gp_rg n).filter _) cy (by omega)
    refine ⟨I', a, b, fun x hx => d x ((mem_ins hI hy).mpr (.inl hx)), fun x hx => ?_, f⟩
    rcases e x hx with z | z
    · rcases (mem_ins hI hy).mp z with q | q
      · exact .inl q
      · exact .inr (q ▸ yJ)
    · exact .inr z
def rkPr (n : Int) (c : List Int → Bool) (p : Int → Bool) : Int := rkM n c ((rgI n).filter p)
theorem rkP_of (h : Mat n c) : RkP (rkPr n c) := by
  have gp : ∀ p : Int → Bool, Gp n ((rgI n).filter p) := fun p => (gp_rg n).filter _
  have mf : ∀ {p : Int → Bool} {x : Int}, x ∈ (rgI n).filter p ↔ (0 ≤ x ∧ x < n) ∧ p x = true := fun {p x} => by rw [List.mem_filter, mem_rgI]
  have mono : ∀ p q : Int → Bool, (∀ x, p x = true → q x = true) → rkPr n c p ≤ rkPr n c q := fun p q hpq => by
    obtain ⟨P, a, b, d, e⟩ := rk_atM h (gp p)
    have := rk_geM h (gp q) a b fun x hx => mf.mpr ⟨(mf.mp (d x hx)).1, hpq x (mf.mp (d x hx)).2⟩
    unfold rkPr
    omega
  refine ⟨?_, mono, fun p e => ?_, fun p q => ?_⟩
  · unfold rkPr
    rw [show (rgI n).filter (fun _ => false) = [] from List.filter_eq_nil_iff.mpr fun _ _ => by simp]
    exact h.rk_in (gp_nil n) h.nil
  · obtain ⟨P, a, b, d, l⟩ := rk_atM h (gp fun x => p x || x == e)
    have gd : Gp n (del P e) := a.sub List.filter_sublist
    have cd := h.sub (del P e) P a List.filter_sublist b
    have := rk_geM h (gp p) gd cd fun x hx => by
      unfold del at hx
      rw [List.mem_filter] at hx
      obtain ⟨m1, m2⟩ := mf.mp (d x hx.1)
      simp only [Bool.or_eq_true, beq_iff_eq, bne_iff_ne, ne_eq] at m2 hx
      exact mf.mpr ⟨m1, m2.elim id fun z => absurd z hx.2⟩
    have ld : P.length ≤ (del P e).length + 1 := by
      by_cases z : e ∈ P
      · have : (del P e).length + 1 = P.length := rm_len (gp_nd a) z
        omega
      · have : del P e = P := List.filter_eq_self.mpr fun x hx => by
          simp only [bne_iff_ne, ne_eq]
          exact fun w => z (w ▸ hx)
        rw [this]
        omega
    unfold rkPr
    omega
  · obtain ⟨I, i1, i2, i3, i4⟩ := rk_atM h (gp fun x => p x && q x)
    obtain ⟨J0, j1, j2, j3, j4⟩ := rk_atM h (gp fun x => p x || q x)
    obtain ⟨J, k1, k2, k3, k4, k5⟩ := ext_toM h j1 j2 _ I i1 i2 rfl
    have a := rk_geM h (gp p) (k1.sub List.filter_sublist : Gp n (J.filter p)) (h.sub _ J k1 List.filter_sublist k2) fun x hx => mf.mpr ⟨k1.2 x (List.mem_filter.mp hx).1, (List.mem_filter.mp hx).2⟩
    have b := rk_geM h (gp q) (k1.sub List.filter_sublist : Gp n (J.filter q)) (h.sub _ J k1 List.filter_sublist k2) fun x hx => mf.mpr ⟨k1.2 x (List.mem_filter.mp hx).1, (List.mem_filter.mp hx).2⟩
    have f := HL.filter_len p q J
    have u : (J.filter fun x => p x || q x) = J := List.filter_eq_self.mpr fun x hx => by
      rcases k4 x hx with z | z
      · have := (mf.mp (i3 x z)).2
        simp only [Bool.and_eq_true] at this
        simp [this.1]
      · exact (mf.mp (j3 x z)).2
    have v : I.length ≤ (J.filter fun x => p x && q x).length := (gp_nd i1).length_le_of_subset fun x hx => List.mem_filter.mpr ⟨k3 x hx, (mf.mp (i3 x hx)).2⟩
    rw [u] at f
    unfold rkPr
    omega
/-- the longest group placeable in both tables, and a parting whose strengths add up to its length -/
theorem both_ex {d : List Int → Bool} (h : Mat n c) (k : Mat n d) : ∃ I A : List Int, Gp n I ∧ Gp n A ∧ c I = true ∧ d I = true ∧ rkM n c A + rkM n d (out n A) = (I.length : Int) ∧ ∀ G, Gp n G → c G = true → d G = true → G.length ≤ I.length := by
  obtain ⟨I, A, hI, hA, i1, i2, le⟩ := common_minmax (rgI n) (gp_nd (gp_rg n)) _ _ (rkP_of h) (rkP_of k)
  have gI : Gp n ((rgI n).filter I) := (gp_rg n).filter _
  have gA : Gp n ((rgI n).filter A) := (gp_rg n).filter _
  have go : Gp n (out n ((rgI n).filter A)) := (gp_rg n).filter _
  have cI : c ((rgI n).filter I) = true := by
    rw [← h.rk_iff gI]
    exact decide_eq_true i1
  have dI : d ((rgI n).filter I) = true := by
    rw [← k.rk_iff gI]
    exact decide_eq_true i2
  have eo : (rgI n).filter (fun x => (rgI n).contains x && !A x) = out n ((rgI n).filter A) := rise_uniq ((gp_rg n).filter _ : Gp n _).1 go.1 fun x => by
    rw [List.mem_filter, mem_out, List.mem_filter, mem_rgI]
    simp only [Bool.and_eq_true, List.contains_eq_mem, decide_eq_true_eq, mem_rgI, Bool.not_eq_true']
    constructor
    · rintro ⟨a, _, b⟩
      exact ⟨a, fun z => by rw [z.2] at b; cases b⟩
    · rintro ⟨a, b⟩
      exact ⟨a, a, Bool.eq_false_iff.mpr fun z => b ⟨a, z⟩⟩
  unfold rkPr at le
  rw [eo] at le
  have up : ∀ G, Gp n G → c G = true → d G = true → (G.length : Int) ≤ rkM n c ((rgI n).filter A) + rkM n d (out n ((rgI n).filter A)) := fun G hG cG dG => by
    have a := rk_geM h gA (hG.sub List.filter_sublist : Gp n (G.filter fun x => A x)) (h.sub _ G hG List.filter_sublist cG) fun x hx => List.mem_filter.mpr ⟨mem_rgI.mpr (hG.2 x (List.mem_filter.mp hx).1), (List.mem_filter.mp hx).2⟩
    have b := rk_geM k go (hG.sub List.filter_sublist : Gp n (G.filter fun x => !A x)) (k.sub _ G hG List.filter_sublist dG) fun x hx => by
      obtain ⟨q1, q2⟩ := List.mem_filter.mp hx
      refine mem_out.mpr ⟨hG.2 x q1, fun z => ?_⟩
      rw [(List.mem_filter.mp z).2] at q2
      cases q2
    have f := HL.filter_not_len (fun x => A x) G
    omega
  have u := up _ gI cI dI
  exact ⟨_, _, gI, gA, cI, dI, by omega, fun G hG cG dG => by
    have := up G hG cG dG
    omega⟩
end
end DW
namespace K68
open PySem PySem.Spec PyProof.Rows L2 DW
local macro_rules | `(tactic| walk_at "dw") => `(tactic| simp only [rdS_0, rdS_s, rdO_0, rdO_1, rdO_s, startS, endD, mAdd_i, mAdd_b, mAdd_l, mAdd_t, mI_i, mIC_i, mB_i, mLen_l, mLen_t, mList_l, mList_t, mTuple_l, mTuple_t, mInt1_i, mInt1_b, mAbs_i, mIx_l, mIx_t, mSl_l, mSl_t, mSeq_l, mSeq_t, mEnum_l, mEnum_t, mFld_o, mExt_l, mRev_l, mRepr_1, put_f, put_t, frz_0, frz_1, frz_2, frz_s, wpS_0, wpS_1, DW.putAll,
  List.map_cons, List.map_nil, List.cons_append, List.nil_append, List.length_cons, List.length_nil, List.replicate_succ, List.replicate_zero, List.set_cons_zero, List.set_cons_succ, List.set_nil, Nat.reduceAdd, Nat.reduceSub, Nat.zero_add, Bool.not_true, Bool.not_false, if_true, if_false, Bool.false_eq_true, and_true, true_and, decide_eq_true_eq, eq_self, Bool.and_eq_true, Bool.or_eq_true, Bool.not_eq_true, D.bl.injEq, D.int.injEq, D.lst.injEq, D.tup.injEq, exists_eq_left', exists_eq_left, exists_eq_right])
section
variable {g : Gd} {P : Program} {w : World} {K : PySem.W.Frag} {mg : Str → Option Value} {base : Heap} {CJ CFm b c sa : Addr} {cs ns : List Int} {tr : Prop}
end
end K68
namespace DW
open PySem PySem.Spec PyProof.Rows L2

def pick (a g : List Int) : List Int := if a.length < g.length then g else a
def shr (n : Int) (c d : List Int → Bool) : List (List Int) := (gps n).filter fun g => c g && d g
def comG (n : Int) (c d : List Int → Bool) : List Int := (shr n c d).foldl pick []
def sum2 (n : Int) (c d : List Int → Bool) (p : List Int) : Int := rkM n c p + rkM n d (out n p)
def comA (n : Int) (c d : List Int → Bool) : List Int := ((gps n).find? fun p => decide (sum2 n c d p = ((comG n c d).length : Int))).getD []
def comD (n : Int) (c d : List Int → Bool) : D := .tup [tI (comG n c d), tI (comA n c d)]
def rkT (n : Int) (c : List Int → Bool) : D := rankT (rkM n c) (gps n)
def spCommon (C : Addr) (ds : List D) (Q : RQ) : Prop := ∃ n c d, ds = [fM C n c, fM C n d] ∧ Mat n c ∧ Mat n d ∧ Q false (comD n c d)
def spDrawn (b : Addr) (ds : List D) (Q : RQ) : Prop := ∃ n : Int, ds = [.rf b, .int n] ∧ 0 ≤ n ∧ n ≤ 7 ∧ ∀ c, Mat n c → Q false (canM n c)
def spSecond (b : Addr) (ds : List D) (Q : RQ) : Prop := ∃ (n : Int) (c : List Int → Bool), ds = [.rf b, .int n, canM n c] ∧ Mat n c ∧ ∀ d, Mat n d → Q false (canM n d)
def spLDue2 (ds : List D) (Q : RQ) : Prop := ∃ n c d, ds = [.int n, .lst [canM n c, canM n d], .lst [rkT n c, rkT n d]] ∧ Mat n c ∧ Mat n d ∧ Q false (comD n c d)

theorem eq_nilL {ds : List D} {W P : Nat} {Q : RQ} (h : Shs W P ds) (hp : P ≤ 50) (q : Q false (.bl ds.isEmpty)) : mEqF (.lst ds) (.lst []) Q := by
  refine .inr ⟨⟨h.t, Nat.le_trans (Nat.succ_le_succ h.p) (by omega)⟩, ⟨rfl, by decide⟩, ?_⟩
  cases ds with
  | nil => exact q
  | cons x xs => simpa [D.py, D.pyAll, PyData.eqv, PyData.eqvAll] using q
theorem at_oneP {d e : D} {ds : List D} : atI (d :: e :: ds) 1 = some e := atI_nat (j := 1) (v := e) (by simp)
theorem find_at {α : Type} {p : α → Bool} {W : List α} {i : Nat} {x : α} (h : W[i]? = some x) (hn : ∀ y ∈ W.take i, p y = false) (hx : p x = true) : W.find? p = some x := by
  have e : W = W.take i ++ x :: W.drop (i + 1) := by
    obtain ⟨hi, e⟩ := List.getElem?_eq_some_iff.mp h
    rw [← e, ← List.drop_eq_getElem_cons hi, List.take_append_drop]
  rw [e, List.find?_append, List.find?_eq_none.mpr fun y hy => by rw [hn y hy]; simp, Option.none_or, List.find?_cons_of_pos hx]
theorem take_no {α : Type} {p : α → Bool} {W : List α} {i : Nat} {x : α} (h : W[i]? = some x) (hn : ∀ y ∈ W.take i, p y = false) (hx : p x = false) : ∀ y ∈ W.take (i + 1), p y = false := by
  rw [List.take_add_one, h]
  intro y hy
  rcases List.mem_append.mp hy with z | z
  · exact hn y z
  · rw [Option.toList_some, List.mem_singleton] at z
    rw [z]; exact hx
section
variable {n : Int} {c d : List Int → Bool}
theorem shr_mem (h : Mat n c) {g : List Int} : g ∈ shr n c d ↔ Gp n g ∧ c g = true ∧ d g = true := by
  unfold shr
  rw [List.mem_filter, (allG_gps h.n0 h.n7).mem, Bool.and_eq_true]
/-- the first of the longest, by a loop and by the last length -/
theorem pick_first : ∀ l : List (List Int), l.Pairwise (fun a b => a.length ≤ b.length) → ∀ x, l.getLast? = some x → (l.foldl pick []).length = x.length ∧ (l.filter fun g => decide (g.length = x.length)).head? = some (l.foldl pick []) := by
  intro l
  refine rev_ind (P := fun l => l.Pairwise (fun a b => a.length ≤ b.length) → ∀ x, l.getLast? = some x → (l.foldl pick []).length = x.length ∧ (l.filter fun g => decide (g.length = x.length)).head? = some (l.foldl pick [])) (fun _ x h => nomatch h) (fun l y ih hp x hx => ?_) l
  rw [List.getLast?_concat, Option.some.injEq] at hx
  subst hx
  obtain ⟨p1, _, p3⟩ := List.pairwise_append.mp hp
  have p3 : ∀ a ∈ l, a.length ≤ y.length := fun a ha => p3 a ha y (List.mem_singleton.mpr rfl)
  rw [List.foldl_append, List.filter_append]
  show (pick (l.foldl pick []) y).length = _ ∧ _ = some (pick (l.foldl pick []) y)
  have ey : ([y].filter fun g => decide (g.length = y.length)) = [y] := by simp
  rw [ey]
  cases hl : l.getLast? with
  | none =>
    rw [List.getLast?_eq_none_iff] at hl
    subst hl
    show (pick [] y).length = _ ∧ some y = some (pick [] y)
    unfold pick
    by_cases z : ([] : List Int).length < y.length
    · rw [if_pos z]; exact ⟨rfl, rfl⟩
    · rw [if_neg z]
      have : y = [] := List.length_eq_zero_iff.mp (by simpa using z)
      subst this
      exact ⟨rfl, rfl⟩
  | some w =>
    obtain ⟨a, b⟩ := ih p1 w hl
    have mw : w ∈ l := List.mem_of_getLast? hl
    have le := p3 w mw
    have pk : pick (l.foldl pick []) y = if (l.foldl pick []).length < y.length then y else l.foldl pick [] := rfl
    rw [pk]
    by_cases z : (l.foldl pick []).length < y.length
    · rw [if_pos z]
      refine ⟨rfl, ?_⟩
      rw [List.filter_eq_nil_iff.mpr fun g hg => ?_]
      · rfl
      · have : g.length ≤ w.length := by
          obtain ⟨i, hi, e⟩ := List.getElem_of_mem hg
          have hw : l[l.length - 1]? = some w := by rw [← List.getLast?_eq_getElem?]; exact hl
          obtain ⟨hj, ej⟩ := List.getElem?_eq_some_iff.mp hw
          by_cases q : i = l.length - 1
          · subst q; rw [← e, ej]; exact Nat.le_refl _
          · have := List.pairwise_iff_getElem.mp p1 i (l.length - 1) hi hj (by omega)
            rw [e, ej] at this
            exact this
        simp only [decide_eq_true_eq]
        omega
    · rw [if_neg z]
      have e : w.length = y.length := by omega
      refine ⟨by omega, ?_⟩
      rw [e] at b
      rw [List.head?_append, b]
      rfl
theorem shr_ord (h : Mat n c) : (shr n c d).Pairwise fun a b => a.length ≤ b.length := ((allG_gps h.n0 h.n7).ord.sublist List.filter_sublist).imp fun {a b} z => by
  unfold gLe at z
  omega
theorem shr_nil (h : Mat n c) (k : Mat n d) : [] ∈ shr n c d := (shr_mem h).mpr ⟨gp_nil n, h.nil, k.nil⟩
/-- the longest group of both -/
theorem com_ok (h : Mat n c) (k : Mat n d) : comG n c d ∈ shr n c d ∧ ∀ g ∈ shr n c d, g.length ≤ (comG n c d).length := by
  have ne : shr n c d ≠ [] := List.ne_nil_of_mem (shr_nil h k)
  obtain ⟨x, hx⟩ : ∃ x, (shr n c d).getLast? = some x := ⟨_, List.getLast?_eq_some_getLast ne⟩
  obtain ⟨a, b⟩ := pick_first _ (shr_ord h) x hx
  have m := List.mem_of_mem_head? (by rw [b]; rfl : (shr n c d).foldl pick [] ∈ ((shr n c d).filter fun g => decide (g.length = x.length)).head?)
  refine ⟨(List.mem_filter.mp m).1, fun g hg => ?_⟩
  show g.length ≤ ((shr n c d).foldl pick []).length
  rw [a]
  obtain ⟨i, hi, e⟩ := List.getElem_of_mem hg
  have hw : (shr n c d)[(shr n c d).length - 1]? = some x := by rw [← List.getLast?_eq_getElem?]; exact hx
  obtain ⟨hj, ej⟩ := List.getElem?_eq_some_iff.mp hw
  by_cases q : i = (shr n c d).length - 1
  · subst q; rw [← e, ej]; exact Nat.le_refl _
  · have := List.pairwise_iff_getElem.mp (shr_ord h (d := d)) i _ hi hj (by omega)
    rw [e, ej] at this
    exact this
theorem sum2_ge (h : Mat n c) (k : Mat n d) {p : List Int} (hp : Gp n p) : ((comG n c d).length : Int) ≤ sum2 n c d p := by
  obtain ⟨m, _⟩ := com_ok h k
  obtain ⟨gI, cI, dI⟩ := (shr_mem h).mp m
  generalize comG n c d = I at gI cI dI
  have a := rk_geM h hp (gI.sub List.filter_sublist : Gp n (I.filter fun x => p.contains x)) (h.sub _ I gI List.filter_sublist cI) fun x hx => by simpa using (List.mem_filter.mp hx).2
  have go : Gp n (out n p) := (gp_rg n).filter _
  have b := rk_geM k go (gI.sub List.filter_sublist : Gp n (I.filter fun x => !p.contains x)) (k.sub _ I gI List.filter_sublist dI) fun x hx => by
    obtain ⟨q1, q2⟩ := List.mem_filter.mp hx
    exact mem_out.mpr ⟨gI.2 x q1, by simpa using q2⟩
  have f := HL.filter_not_len (fun x => p.contains x) I
  unfold sum2
  omega
theorem comA_ex (h : Mat n c) (k : Mat n d) : ∃ p, (gps n).find? (fun p => decide (sum2 n c d p = ((comG n c d).length : Int))) = some p ∧ comA n c d = p ∧ Gp n p ∧ sum2 n c d p = ((comG n c d).length : Int) := by
  obtain ⟨I, A, gI, gA, cI, dI, e, mx⟩ := both_ex h k
  have l1 := (com_ok h k).2 I ((shr_mem h).mpr ⟨gI, cI, dI⟩)
  obtain ⟨g1, g2, g3⟩ := (shr_mem h).mp (com_ok h k).1
  have l2 := mx _ g1 g2 g3
  have ha := allG_gps h.n0 h.n7
  have s : sum2 n c d A = ((comG n c d).length : Int) := by
    unfold sum2
    rw [e]
    omega
  cases f : (gps n).find? (fun p => decide (sum2 n c d p = ((comG n c d).length : Int))) with
  | none => exact absurd (decide_eq_true s) (List.find?_eq_none.mp f A ((ha.mem A).mpr gA))
  | some p =>
    refine ⟨p, rfl, by unfold comA; rw [f]; rfl, (ha.mem p).mp (List.mem_of_find?_eq_some f), ?_⟩
    simpa using List.find?_some f
end
end DW
namespace K68
open PySem PySem.Spec PyProof.Rows L2 DW
local macro_rules | `(tactic| walk_at "dw") => `(tactic| simp only [rdS_0, rdS_s, rdO_0, rdO_1, rdO_s, startS, endD, mAdd_i, mAdd_b, mAdd_l, mAdd_t, mI_i, mIC_i, mB_i, mLen_l, mLen_t, mList_l, mList_t, mTuple_l, mTuple_t, mInt1_i, mInt1_b, mAbs_i, mIx_l, mIx_t, mSl_l, mSl_t, mSeq_l, mSeq_t, mEnum_l, mEnum_t, mFld_o, mExt_l, mRev_l, mRepr_1, put_f, put_t, frz_0, frz_1, frz_2, frz_s, wpS_0, wpS_1, DW.putAll,
  List.map_cons, List.map_nil, List.cons_append, List.nil_append, List.length_cons, List.length_nil, List.replicate_succ, List.replicate_zero, List.set_cons_zero, List.set_cons_succ, List.set_nil, Nat.reduceAdd, Nat.reduceSub, Nat.zero_add, Bool.not_true, Bool.not_false, if_true, if_false, Bool.false_eq_true, and_true, true_and, decide_eq_true_eq, eq_self, Bool.and_eq_true, Bool.or_eq_true, Bool.not_eq_true, D.bl.injEq, D.int.injEq, D.lst.injEq, D.tup.injEq, exists_eq_left', exists_eq_left, exists_eq_right])
section
variable {g : Gd} {P : Program} {w : World} {K : PySem.W.Frag} {mg : Str → Option Value} {base : Heap} {CJ CFm b c sa : Addr} {cs ns : List Int} {tr : Prop}
end
end K68
namespace K68
open PySem PySem.Spec PyProof.Rows L2 DW
local macro_rules | `(tactic| walk_at "dw") => `(tactic| simp only [rdS_0, rdS_s, rdO_0, rdO_1, rdO_s, startS, endD, mAdd_i, mAdd_b, mAdd_l, mAdd_t, mI_i, mIC_i, mB_i, mLen_l, mLen_t, mList_l, mList_t, mTuple_l, mTuple_t, mInt1_i, mInt1_b, mAbs_i, mIx_l, mIx_t, mSl_l, mSl_t, mSeq_l, mSeq_t, mEnum_l, mEnum_t, mFld_o, mExt_l, mRev_l, mRepr_1, put_f, put_t, frz_0, frz_1, frz_2, frz_s, wpS_0, wpS_1, DW.putAll,
  List.map_cons, List.map_nil, List.cons_append, List.nil_append, List.length_cons, List.length_nil, List.replicate_succ, List.replicate_zero, List.set_cons_zero, List.set_cons_succ, List.set_nil, Nat.reduceAdd, Nat.reduceSub, Nat.zero_add, Bool.not_true, Bool.not_false, if_true, if_false, Bool.false_eq_true, and_true, true_and, decide_eq_true_eq, eq_self, Bool.and_eq_true, Bool.or_eq_true, Bool.not_eq_true, D.bl.injEq, D.int.injEq, D.lst.injEq, D.tup.injEq, exists_eq_left', exists_eq_left, exists_eq_right])
section
variable {g : Gd} {P : Program} {w : World} {K : PySem.W.Frag} {mg : Str → Option Value} {base : Heap} {CJ CFm b c sa : Addr} {cs ns : List Int} {tr : Prop}
abbrev common_s : Stmt := topS 39
theorem common_sc : FnScope ["one", "other", "longest", "group", "part"] ["one", "other"] (defScope common_s) := ⟨rfl, rfl, rfl, by decide +kernel, rfl, by decide +kernel, by decide +kernel⟩
theorem common_ok {common_f : Addr} {common_fd : FuncData} (common_D : Dfn K mg "common" "common" common_s ["one", "other"] common_f common_fd) (T : Bltn mg) (C_Family : ClsF K mg CFm)
    {Family___contains___f : Addr} {Family___contains___fd : FuncData} (Family___contains___D : Mth K CFm "__contains__" "Family.__contains__" Family___contains___s ["self", "group"] Family___contains___f Family___contains___fd) (Family___contains___G : FnOk P w K mg base CX0 3 Family___contains___f Family___contains___fd ["self", "group"] (spOf g 2 (spFHas CFm)))
    {Family_strength_f : Addr} {Family_strength_fd : FuncData} (Family_strength_D : Mth K CFm "strength" "Family.strength" Family_strength_s ["self", "group"] Family_strength_f Family_strength_fd) (Family_strength_G : FnOk P w K mg base CX0 1 Family_strength_f Family_strength_fd ["self", "group"] (spOf g 2 (spFStr CFm)))
    {groups_f : Addr} {groups_fd : FuncData} (groups_D : Dfn K mg "groups" "groups" groups_s ["size"] groups_f groups_fd) (groups_G : FnOk P w K mg base CX0 3 groups_f groups_fd ["size"] (spOf g 1 spLGroups))
    {others_f : Addr} {others_fd : FuncData} (others_D : Dfn K mg "others" "others" others_s ["size", "group"] others_f others_fd) (others_G : FnOk P w K mg base CX0 2 others_f others_fd ["size", "group"] (spOf g 2 spOthers)) : FnOk P w K mg base CX0 4 common_f common_fd ["one", "other"] (spOf g 2 (spCommon CFm)) := by
  refine def_ok common_D.F common_sc rfl (fun cdv A fr s H E hr =>
    (wss_cons (ws_if (wt_cmp (op_neF hr.units) s2_neF (we_fld (wr_v 0 (pv 0)) C_Family.cl C_Family.n_size).rd (we_fld (wr_v 1 (pv 1)) C_Family.cl C_Family.n_size).rd (nomark _)) (wss_one ws_never) wss_nil)
    (wss_cons (ws_set 2 (we_tup wa_nil) (fun te h => ps_set (i := 2) common_sc.nd rfl (by first | exact Or.inl rfl | exact Or.inr rfl) h))
    (wss_cons (ws_for rfl (wi_seq (we_call (wa_cons (we_fld (wr_v 0 (pv 0)) C_Family.cl C_Family.n_size) wa_nil) (fun t h => pe_call groups_G (hr.mono (by decide)) (by rfl) groups_D.m groups_D.F.kp groups_D.b .nil pass0 h))) (wg_name 3 (pg_name common_sc.nd rfl (by first | exact Or.inl rfl | exact Or.inr rfl)))
    (wss_one (ws_if (ww_t (ww_and (wt_cmp op_gt s2_B (we_cb (war_cons (wr_v 3 (pv 3)) war_nil) sc_len (fun t h => pe_callB call_len_seq (by rfl) T.len (by decide +kernel) h)).rd (we_cb (war_cons (wr_v 2 (pv 2)) war_nil) sc_len (fun t h => pe_callB call_len_seq (by rfl) T.len (by decide +kernel) h)).rd (nomark _)) (ww_and (wt_cmp (op_inO Family___contains___G Family___contains___D.m.at_ Family___contains___D.m.fn Family___contains___D.b pass0 (hr.mono (by decide))) s2_inO (wr_v 3 (pv 3)) (wr_v 0 (pv 0)) (by rfl)) (ww_and1 (wt_cmp (op_inO Family___contains___G Family___contains___D.m.at_ Family___contains___D.m.fn Family___contains___D.b pass0 (hr.mono (by decide))) s2_inO (wr_v 3 (pv 3)) (wr_v 1 (pv 1)) (by rfl)))))) (wss_one (ws_set 2 (we_v 3 (pv 3)) (fun te h => ps_set (i := 2) common_sc.nd rfl (by first | exact Or.inl rfl | exact Or.inr rfl) h))) wss_nil)))
    (wss_one (ws_for rfl (wi_seq (we_call (wa_cons (we_fld (wr_v 0 (pv 0)) C_Family.cl C_Family.n_size) wa_nil) (fun t h => pe_call groups_G (hr.mono (by decide)) (by rfl) groups_D.m groups_D.F.kp groups_D.b .nil pass0 h))) (wg_name 4 (pg_name common_sc.nd rfl (by first | exact Or.inl rfl | exact Or.inr rfl)))
    (wss_one (ws_if (wt_cmp (op_eqF hr.units) s2_eqF (we_bin op_addA s2_add (we_meth (we_v 0 (pv 0)) (wa_cons (we_v 4 (pv 4)) wa_nil) (fun ta t ho h => pe_meth ho C_Family.cl Family_strength_D.m Family_strength_G (hr.mono (by decide)) Family_strength_D.b .nil pass0 h)).rd (we_meth (we_v 1 (pv 1)) (wa_cons (we_call (wa_cons (we_fld (wr_v 0 (pv 0)) C_Family.cl C_Family.n_size) (wa_cons (we_v 4 (pv 4)) wa_nil)) (fun t h => pe_call others_G (hr.mono (by decide)) (by rfl) others_D.m others_D.F.kp others_D.b .nil pass0 h)) wa_nil) (fun ta t ho h => pe_meth ho C_Family.cl Family_strength_D.m Family_strength_G (hr.mono (by decide)) Family_strength_D.b .nil pass0 h)).rd).rd (we_cb (war_cons (wr_v 2 (pv 2)) war_nil) sc_len (fun t h => pe_callB call_len_seq (by rfl) T.len (by decide +kernel) h)).rd (nomark _)) (wss_one (ws_ret (we_tup (wa_cons (we_v 2 (pv 2)) (wa_cons (we_v 4 (pv 4)) wa_nil))))) wss_nil)))))))) ?_
  rintro ds Q hl ⟨n, c, d, rfl, h, k, hq⟩
  have ha := allG_gps h.n0 h.n7
  have n0 := h.n0
  have n7 := h.n7
  obtain ⟨p, fp, eA, gp, sp⟩ := comA_ex h k
  unfold comD at hq
  rw [eA] at hq
  walk_at "dw"
  refine fldF_size (fldF_size (ne_int ⟨_, rfl, ?_⟩))
  rw [if_neg (by simp)]
  refine ⟨Nat.zero_le _, fldF_size ⟨n, rfl, n0, n7, fun out2 ha2 => ?_⟩⟩
  have e := allG_uniq ha2 ha
  subst e
  show wFor _ _ _ ((gps n).map tI) _
  refine wFor_inv (fun i st => ∃ s3 : Sl, st = [.val (fM CFm n c), .val (fM CFm n d), .val (tI ((((gps n).take i).filter fun g => c g && d g).foldl pick [])), s3, .un]) (fun _ _ _ => trivial) _ 0 _ ⟨_, rfl⟩ ?_ ?_
  · rintro i d2 hi st ⟨s3, rfl⟩ K hK
    rw [Nat.zero_add] at hK ⊢
    obtain ⟨g, hg, rfl⟩ := row_at hi
    have gg := (ha.mem g).mp (List.mem_of_getElem? hg)
    rw [take_one hg, List.filter_append, List.foldl_append] at hK
    generalize (((gps n).take i).filter fun g => c g && d g).foldl pick [] = a at hK
    have pk : ([g].filter fun g => c g && d g).foldl pick a = if c g = true ∧ d g = true ∧ a.length < g.length then g else a := by
      cases e1 : c g <;> cases e2 : d g <;> simp [e1, e2, pick]
    rw [pk] at hK
    walk_at "dw"
    refine len_tI (len_tI ⟨_, rfl, ?_⟩)
    by_cases z : a.length < g.length
    · rw [if_pos (by simpa using z)]
      refine ⟨rfl, _, rfl, n, c, g, rfl, h, gg, _, rfl, _, rfl, ?_⟩
      cases e1 : c g with
      | false =>
        rw [e1, if_neg (fun w => by cases w.1)] at hK
        rw [if_neg (by simp)]
        exact hK _ ⟨_, rfl⟩
      | true =>
        rw [if_pos rfl]
        refine ⟨rfl, _, rfl, n, d, g, rfl, k, gg, _, rfl, _, rfl, ?_⟩
        cases e2 : d g with
        | false =>
          rw [e2, if_neg (fun w => by cases w.2.1)] at hK
          rw [if_neg (by simp)]
          exact hK _ ⟨_, rfl⟩
        | true =>
          rw [if_pos ⟨e1, e2, z⟩] at hK
          rw [if_pos rfl]
          exact hK _ ⟨_, rfl⟩
    · rw [if_neg (by simpa using z)]
      rw [if_neg (fun w => z w.2.2)] at hK
      exact hK _ ⟨_, rfl⟩
  · rintro st ⟨s3, rfl⟩
    rw [Nat.zero_add, List.length_map, List.take_length]
    have eC : ((gps n).filter fun g => c g && d g).foldl pick [] = comG n c d := rfl
    rw [eC]
    walk_at "dw"
    refine fldF_size ⟨n, rfl, n0, n7, fun out2 ha2 => ?_⟩
    have e := allG_uniq ha2 ha
    subst e
    show wFor _ _ _ ((gps n).map tI) _
    refine wFor_inv (fun i st => ∃ s4 : Sl, st = [.val (fM CFm n c), .val (fM CFm n d), .val (tI (comG n c d)), s3, s4] ∧ ∀ y ∈ (gps n).take i, decide (sum2 n c d y = ((comG n c d).length : Int)) = false) (fun _ _ _ => trivial) _ 0 _ ⟨_, rfl, fun y hy => by simp at hy⟩ ?_ ?_
    · rintro i d2 hi st ⟨s4, rfl, hn⟩ K hK
      rw [Nat.zero_add] at hK hn
      obtain ⟨g, hg, rfl⟩ := row_at hi
      have gg := (ha.mem g).mp (List.mem_of_getElem? hg)
      walk_at "dw"
      refine ⟨_, rfl, rfl, n, c, g, rfl, h, gg, _, rfl, rfl, fldF_size ⟨n, g, rfl, n0, n7, n, d, _, rfl, k, (gp_rg n).filter _, ?_⟩⟩
      try walk_at "dw"
      refine len_tI ?_
      refine eq_int ?_
      refine ⟨_, rfl, ?_⟩
      by_cases z : sum2 n c d g = ((comG n c d).length : Int)
      · have := find_at hg hn (decide_eq_true z)
        rw [fp] at this
        cases this
        rw [if_pos (decide_eq_true (show rkM n c p + rkM n d (out n p) = _ from z))]
        exact ⟨le_line (by decide), hq⟩
      · rw [if_neg (show ¬ decide (rkM n c g + rkM n d (out n g) = ((comG n c d).length : Int)) = true by rw [decide_eq_true_eq]; exact z)]
        exact hK _ ⟨_, rfl, take_no hg hn (decide_eq_false z)⟩
    · rintro st ⟨s4, rfl, hn⟩
      rw [Nat.zero_add, List.length_map, List.take_length] at hn
      have := hn p ((ha.mem p).mpr gp)
      rw [decide_eq_true sp] at this
      cases this

end
end K68
namespace K68
open PySem PySem.Spec PyProof.Rows L2 DW
local macro_rules | `(tactic| walk_at "dw") => `(tactic| simp only [rdS_0, rdS_s, rdO_0, rdO_1, rdO_s, startS, endD, mAdd_i, mAdd_b, mAdd_l, mAdd_t, mI_i, mIC_i, mB_i, mLen_l, mLen_t, mList_l, mList_t, mTuple_l, mTuple_t, mInt1_i, mInt1_b, mAbs_i, mIx_l, mIx_t, mSl_l, mSl_t, mSeq_l, mSeq_t, mEnum_l, mEnum_t, mFld_o, mExt_l, mRev_l, mRepr_1, put_f, put_t, frz_0, frz_1, frz_2, frz_s, wpS_0, wpS_1, DW.putAll,
  List.map_cons, List.map_nil, List.cons_append, List.nil_append, List.length_cons, List.length_nil, List.replicate_succ, List.replicate_zero, List.set_cons_zero, List.set_cons_succ, List.set_nil, Nat.reduceAdd, Nat.reduceSub, Nat.zero_add, Bool.not_true, Bool.not_false, if_true, if_false, Bool.false_eq_true, and_true, true_and, decide_eq_true_eq, eq_self, Bool.and_eq_true, Bool.or_eq_true, Bool.not_eq_true, D.bl.injEq, D.int.injEq, D.lst.injEq, D.tup.injEq, exists_eq_left', exists_eq_left, exists_eq_right])
section
variable {g : Gd} {P : Program} {w : World} {K : PySem.W.Frag} {mg : Str → Option Value} {base : Heap} {CJ CFm b c sa : Addr} {cs ns : List Int} {tr : Prop}
abbrev l_drawn_s : Stmt := topS 55
theorem l_drawn_sc : FnScope ["_law_bag_here", "_law_size", "_law_prime", "_law_rows"] ["_law_bag_here", "_law_size"] (defScope l_drawn_s) := ⟨rfl, rfl, rfl, by decide +kernel, rfl, by decide +kernel, by decide +kernel⟩
theorem l_drawn_ok {l_drawn_f : Addr} {l_drawn_fd : FuncData} (l_drawn_D : Dfn K mg "_law_drawn" "_law_drawn" l_drawn_s ["_law_bag_here", "_law_size"] l_drawn_f l_drawn_fd) (T : Bltn mg)
    {l_can_f : Addr} {l_can_fd : FuncData} (l_can_D : Dfn K mg "_law_can" "_law_can" l_can_s ["_law_size", "_law_jobs_here"] l_can_f l_can_fd) (l_can_G : FnOk P w K mg base CX0 2 l_can_f l_can_fd ["_law_size", "_law_jobs_here"] (spOf (Bg b c cs) 2 spLCan))
    {l_can_rows_f : Addr} {l_can_rows_fd : FuncData} (l_can_rows_D : Dfn K mg "_law_can_rows" "_law_can_rows" l_can_rows_s ["_law_size", "_law_prime", "_law_rows"] l_can_rows_f l_can_rows_fd) (l_can_rows_G : FnOk P w K mg base CX0 2 l_can_rows_f l_can_rows_fd ["_law_size", "_law_prime", "_law_rows"] (spOf (Bg b c cs) 3 spCanRows))
    {l_jobs_f : Addr} {l_jobs_fd : FuncData} (l_jobs_D : Dfn K mg "_law_jobs" "_law_jobs" l_jobs_s ["_law_bag_here", "_law_size", "_law_most"] l_jobs_f l_jobs_fd) (l_jobs_G : FnOk P w K mg base CX0 4 l_jobs_f l_jobs_fd ["_law_bag_here", "_law_size", "_law_most"] (spOf (Bg b c cs) 3 (spJobs b)))
    {l_take_f : Addr} {l_take_fd : FuncData} (l_take_D : Dfn K mg "_law_take" "_law_take" l_take_s ["_law_bag_here", "_law_many"] l_take_f l_take_fd) (l_take_G : FnOk P w K mg base CX0 1 l_take_f l_take_fd ["_law_bag_here", "_law_many"] (spOf (Bg b c cs) 2 (spTake b)))
    {l_vectors_f : Addr} {l_vectors_fd : FuncData} (l_vectors_D : Dfn K mg "_law_vectors" "_law_vectors" l_vectors_s ["_law_bag_here", "_law_size"] l_vectors_f l_vectors_fd) (l_vectors_G : FnOk P w K mg base CX0 3 l_vectors_f l_vectors_fd ["_law_bag_here", "_law_size"] (spOf (Bg b c cs) 2 (spVec b))) : FnOk P w K mg base CX0 5 l_drawn_f l_drawn_fd ["_law_bag_here", "_law_size"] (spOf (Bg b c cs) 2 (spDrawn b)) := by
  refine def_ok l_drawn_D.F l_drawn_sc rfl (fun cdv A fr s H E hr =>
    (wss_cons (ws_if (wt_cmp op_gt s2_B (we_call (wa_cons (we_v 0 (pv 0)) (wa_cons we_int wa_nil)) (fun t h => pe_call l_take_G (hr.mono (by decide)) (by rfl) l_take_D.m l_take_D.F.kp l_take_D.b .nil pass0 h)).rd (we_int).rd (nomark _)) (wss_one (ws_ret (we_call (wa_cons (we_v 1 (pv 1)) (wa_cons (we_call (wa_cons (we_v 0 (pv 0)) (wa_cons (we_v 1 (pv 1)) (wa_cons we_int wa_nil))) (fun t h => pe_call l_jobs_G (hr.mono (by decide)) (by rfl) l_jobs_D.m l_jobs_D.F.kp l_jobs_D.b .nil pass0 h)) wa_nil)) (fun t h => pe_call l_can_G (hr.mono (by decide)) (by rfl) l_can_D.m l_can_D.F.kp l_can_D.b .nil pass0 h)))) wss_nil)
    (wss_cons (ws_asg (we_call (wa_cons (we_v 0 (pv 0)) (wa_cons (we_v 1 (pv 1)) wa_nil)) (fun t h => pe_call l_vectors_G (hr.mono (by decide)) (by rfl) l_vectors_D.m l_vectors_D.F.kp l_vectors_D.b .nil pass0 h)) (wg_tup [2, 3] rfl (pg_tup rfl (pgs_cons (pg_name (i := 2) l_drawn_sc.nd rfl (by first | exact Or.inl rfl | exact Or.inr rfl)) (pgs_cons (pg_name (i := 3) l_drawn_sc.nd rfl (by first | exact Or.inl rfl | exact Or.inr rfl)) pgs_nil)))) (fun te tt h h2 => ps_asg h h2))
    (wss_one (ws_ret (we_call (wa_cons (we_v 1 (pv 1)) (wa_cons (we_v 2 (pv 2)) (wa_cons (we_v 3 (pv 3)) wa_nil))) (fun t h => pe_call l_can_rows_G (hr.mono (by decide)) (by rfl) l_can_rows_D.m l_can_rows_D.F.kp l_can_rows_D.b .nil pass0 h))))))) ?_
  rintro ds Q hl ⟨n, rfl, n0, n7, hq⟩
  walk_at "dw"
  refine ⟨3, rfl, by decide, by decide, fun x x0 x3 => ⟨_, rfl, ?_⟩⟩
  by_cases z : 0 < x
  · rw [if_pos (by simpa using z)]
    refine ⟨n, 7, rfl, n0, n7, by decide, by decide, fun rows lr gr => ?_⟩
    have gd : good n rows := ⟨n0, n7, by omega, gr⟩
    refine ⟨n, rows, .inl rfl, gd, fun out2 ha2 => ?_⟩
    have e := allG_uniq ha2 (allG_gps n0 n7)
    subst e
    exact hq _ (mat_jobs gd)
  · rw [if_neg (by simpa using z)]
    refine ⟨n, rfl, n0, n7, fun p w rows hR => ⟨_, rfl, rfl, ?_⟩⟩
    simp only [DW.putAll]
    walk_at "dw"
    refine ⟨n, p, w, rows, rfl, hR, ?_⟩
    exact hq _ (mat_lin (p := p) (w := w) (a := vecF rows) (pr_of hR.pr) n0 hR.n7)

end
end K68
namespace K68
open PySem PySem.Spec PyProof.Rows L2 DW
local macro_rules | `(tactic| walk_at "dw") => `(tactic| simp only [rdS_0, rdS_s, rdO_0, rdO_1, rdO_s, startS, endD, mAdd_i, mAdd_b, mAdd_l, mAdd_t, mI_i, mIC_i, mB_i, mLen_l, mLen_t, mList_l, mList_t, mTuple_l, mTuple_t, mInt1_i, mInt1_b, mAbs_i, mIx_l, mIx_t, mSl_l, mSl_t, mSeq_l, mSeq_t, mEnum_l, mEnum_t, mFld_o, mExt_l, mRev_l, mRepr_1, put_f, put_t, frz_0, frz_1, frz_2, frz_s, wpS_0, wpS_1, DW.putAll,
  List.map_cons, List.map_nil, List.cons_append, List.nil_append, List.length_cons, List.length_nil, List.replicate_succ, List.replicate_zero, List.set_cons_zero, List.set_cons_succ, List.set_nil, Nat.reduceAdd, Nat.reduceSub, Nat.zero_add, Bool.not_true, Bool.not_false, if_true, if_false, Bool.false_eq_true, and_true, true_and, decide_eq_true_eq, eq_self, Bool.and_eq_true, Bool.or_eq_true, Bool.not_eq_true, D.bl.injEq, D.int.injEq, D.lst.injEq, D.tup.injEq, exists_eq_left', exists_eq_left, exists_eq_right])
section
variable {g : Gd} {P : Program} {w : World} {K : PySem.W.Frag} {mg : Str → Option Value} {base : Heap} {CJ CFm b c sa : Addr} {cs ns : List Int} {tr : Prop}
abbrev l_second_s : Stmt := topS 58
theorem l_second_sc : FnScope ["_law_bag_here", "_law_size", "_law_table", "_law_left_here", "_law_crew", "_law_can_here", "_law_group", "_law_p", "_law_one_here"] ["_law_bag_here", "_law_size", "_law_table"] (defScope l_second_s) := ⟨rfl, rfl, rfl, by decide +kernel, rfl, by decide +kernel, by decide +kernel⟩
theorem l_second_ok {l_second_f : Addr} {l_second_fd : FuncData} (l_second_D : Dfn K mg "_law_second" "_law_second" l_second_s ["_law_bag_here", "_law_size", "_law_table"] l_second_f l_second_fd) (T : Bltn mg)
    {l_crews_f : Addr} {l_crews_fd : FuncData} (l_crews_D : Dfn K mg "_law_crews" "_law_crews" l_crews_s ["_law_size", "_law_can_here"] l_crews_f l_crews_fd) (l_crews_G : FnOk P w K mg base CX0 2 l_crews_f l_crews_fd ["_law_size", "_law_can_here"] (spOf (Bg b c cs) 2 spLCrewsM))
    {l_drawn_f : Addr} {l_drawn_fd : FuncData} (l_drawn_D : Dfn K mg "_law_drawn" "_law_drawn" l_drawn_s ["_law_bag_here", "_law_size"] l_drawn_f l_drawn_fd) (l_drawn_G : FnOk P w K mg base CX0 5 l_drawn_f l_drawn_fd ["_law_bag_here", "_law_size"] (spOf (Bg b c cs) 2 (spDrawn b)))
    {l_groups_f : Addr} {l_groups_fd : FuncData} (l_groups_D : Dfn K mg "_law_groups" "_law_groups" l_groups_s ["_law_size"] l_groups_f l_groups_fd) (l_groups_G : FnOk P w K mg base CX0 1 l_groups_f l_groups_fd ["_law_size"] (spOf (Bg b c cs) 1 spLGroups))
    {l_rest_f : Addr} {l_rest_fd : FuncData} (l_rest_D : Dfn K mg "_law_rest" "_law_rest" l_rest_s ["_law_size", "_law_group"] l_rest_f l_rest_fd) (l_rest_G : FnOk P w K mg base CX0 1 l_rest_f l_rest_fd ["_law_size", "_law_group"] (spOf (Bg b c cs) 2 spLRest))
    {l_take_f : Addr} {l_take_fd : FuncData} (l_take_D : Dfn K mg "_law_take" "_law_take" l_take_s ["_law_bag_here", "_law_many"] l_take_f l_take_fd) (l_take_G : FnOk P w K mg base CX0 1 l_take_f l_take_fd ["_law_bag_here", "_law_many"] (spOf (Bg b c cs) 2 (spTake b))) : FnOk P w K mg base CX0 6 l_second_f l_second_fd ["_law_bag_here", "_law_size", "_law_table"] (spOf (Bg b c cs) 3 (spSecond b)) := by
  refine def_ok l_second_D.F l_second_sc rfl (fun cdv A fr s H E hr =>
    (wss_cons (ws_if (wt_cmp op_gt s2_B (we_call (wa_cons (we_v 0 (pv 0)) (wa_cons we_int wa_nil)) (fun t h => pe_call l_take_G (hr.mono (by decide)) (by rfl) l_take_D.m l_take_D.F.kp l_take_D.b .nil pass0 h)).rd (we_int).rd (nomark _)) (wss_one (ws_ret (we_call (wa_cons (we_v 0 (pv 0)) (wa_cons (we_v 1 (pv 1)) wa_nil)) (fun t h => pe_call l_drawn_G (hr.mono (by decide)) (by rfl) l_drawn_D.m l_drawn_D.F.kp l_drawn_D.b .nil pass0 h)))) wss_nil)
    (wss_cons (ws_setLc (own := [("_law_crew", 4)]) 3 false rfl l_second_sc.nd rfl rfl (sw_true rfl rfl rfl (by decide +kernel)) (wi_seq (we_call (wa_cons (we_v 1 (pv 1)) (wa_cons (we_v 2 (pv 2)) wa_nil)) (fun t h => pe_call l_crews_G (hr.mono (by decide)) (by rfl) l_crews_D.m l_crews_D.F.kp l_crews_D.b .nil pass0 h))) (blkOk_by (N := ["_law_bag_here", "_law_size", "_law_table", "_law_left_here", "_law_crew", "_law_can_here", "_law_group", "_law_p", "_law_one_here"]) (sc := defScope l_second_s) (own := [("_law_crew", 4)]) (by decide +kernel)) (fun _ => (wg_name 4 (pg_name l_second_sc.nd rfl (by first | exact Or.inl rfl | exact Or.inr rfl)))) (fun _ => wts_nil) (fun _ => (we_call (wa_cons (we_v 1 (pv 1)) (wa_cons (we_v 4 (pv 4)) wa_nil)) (fun t h => pe_call l_rest_G (hr.mono (by decide)) (by rfl) l_rest_D.m l_rest_D.F.kp l_rest_D.b .nil pass0 h))))
    (wss_cons (ws_ownDT 5 (fun te h => ps_set (i := 5) l_second_sc.nd rfl (by first | exact Or.inl rfl | exact Or.inr rfl) h))
    (wss_cons (ws_for rfl (wi_seq (we_call (wa_cons (we_v 1 (pv 1)) wa_nil) (fun t h => pe_call l_groups_G (hr.mono (by decide)) (by rfl) l_groups_D.m l_groups_D.F.kp l_groups_D.b .nil pass0 h))) (wg_name 6 (pg_name l_second_sc.nd rfl (by first | exact Or.inl rfl | exact Or.inr rfl)))
    (wss_one (ws_dput 5 hr.units (we_cb (war_cons (we_lc (own := [("_law_one_here", 8)]) rfl l_second_sc.nd (wi_seq (we_v 3 (pv 3))) (blkOk_by (N := ["_law_bag_here", "_law_size", "_law_table", "_law_left_here", "_law_crew", "_law_can_here", "_law_group", "_law_p", "_law_one_here"]) (sc := defScope l_second_s) (own := [("_law_one_here", 8)]) (by decide +kernel)) (fun _ => (wg_name 8 (pg_name l_second_sc.nd rfl (by first | exact Or.inl rfl | exact Or.inr rfl)))) (fun _ => wts_nil) (fun _ => (we_cmp (op_eqF hr.units) s2_eqF (we_lc (own := [("_law_p", 7)]) rfl l_second_sc.nd (wi_seq (we_v 6 (pv 6))) (blkOk_by (N := ["_law_bag_here", "_law_size", "_law_table", "_law_left_here", "_law_crew", "_law_can_here", "_law_group", "_law_p", "_law_one_here"]) (sc := relS _ (defScope l_second_s)) (own := [("_law_p", 7)]) (by decide +kernel)) (fun _ => (wg_name 7 (pg_name l_second_sc.nd rfl (by first | exact Or.inl rfl | exact Or.inr rfl)))) (fun _ => (wts_one (wt_cmp op_notIn_seq s2_in (wr_v 7 (pv 7)) (wr_v 8 (pv 8)) (by rfl)))) (fun _ => (we_v 7 (pv 7)))).rd (we_lst wa_nil).rd (nomark _)))).rd war_nil) sc_any (fun t h => pe_callB (cr_any rfl) (by rfl) T.any (by decide +kernel) h)) (pv 5) (wr_v 6 (pv 6)))))
    (wss_one (ws_retC 5 (pv 5)))))))) ?_
  rintro ds Q hl ⟨n, c, rfl, h, hq⟩
  have ha := allG_gps h.n0 h.n7
  have n0 := h.n0
  have n7 := h.n7
  have hol := ha.len
  have hcl := fam_len h.fam
  walk_at "dw"
  refine ⟨3, rfl, by decide, by decide, fun x x0 x3 => ⟨_, rfl, ?_⟩⟩
  by_cases z : 0 < x
  · rw [if_pos (by simpa using z)]
    exact ⟨n, rfl, n0, n7, fun d hd => hq d hd⟩
  · rw [if_neg (by simpa using z)]
    refine ⟨n, c, rfl, h, ?_⟩
    show ((crM n c).map tI).length < sizeLine ∧ wLc _ _ _ _ ((crM n c).map tI) _
    refine ⟨small_line (by rw [List.length_map]; omega), wLc_all tI (fun r => tI (out n r)) (crM n c) _ (fun r hr R h' => ?_) ?_⟩
    · walk_at "dw"
      exact ⟨n, r, rfl, n0, n7, h.fam.gp r hr, h'⟩
    refine ⟨n, rfl, n0, n7, fun out2 ha2 => ?_⟩
    have e := allG_uniq ha2 ha
    subst e
    show wFor _ _ _ ((gps n).map tI) _
    refine wFor_inv (fun i st => ∃ s4 s6 s7 s8 : Sl, st = [.val (.rf b), .val (.int n), .val (canM n c), .val (.lst ((crM n c).map fun r => tI (out n r))), s4, .ow (.dT (((gps n).take i).map fun g => (keyI g, .bl (dualB n c g)))), s6, s7, s8]) (fun _ _ _ => trivial) _ 0 _ ⟨_, _, _, _, rfl⟩ ?_ ?_
    · rintro i d hi st ⟨s4, s6, s7, s8, rfl⟩ K hK
      rw [Nat.zero_add] at hK ⊢
      obtain ⟨g, hg, rfl⟩ := row_at hi
      have mg := List.mem_of_getElem? hg
      have gg := (ha.mem g).mp mg
      have lg := gp_len gg n7
      walk_at "dw"
      refine ⟨⟨_, rfl⟩, ?_⟩
      show ((crM n c).map fun r => tI (out n r)).length < sizeLine ∧ wLc _ _ _ _ ((crM n c).map fun r => tI (out n r)) _
      refine ⟨small_line (by rw [List.length_map]; omega), wLc_all (fun r => tI (out n r)) (fun r => D.bl (g.all fun p => (out n r).contains p)) (crM n c) _ (fun r hr R h' => ?_) ?_⟩
      · walk_at "dw"
        show (g.map D.int).length < sizeLine ∧ wLc _ _ _ _ (g.map D.int) _
        refine ⟨small_line (by rw [List.length_map]; omega), wLc_map D.int (fun p => !(out n r).contains p) D.int g _ (fun p hp R1 R0 h'' => ?_) ?_⟩
        · walk_at "dw"
          exact in_tI ⟨_, rfl, h''⟩
        refine ⟨Nat.zero_le _, eq_nilL (shs_ints (gg.sub List.filter_sublist) n7) (by decide) ?_⟩
        rw [show (((g.filter fun p => !(out n r).contains p)).map D.int).isEmpty = g.all fun p => (out n r).contains p by
          rw [Bool.eq_iff_iff, List.isEmpty_iff, List.map_eq_nil_iff, List.filter_eq_nil_iff, List.all_eq_true]
          simp]
        exact h'
      · refine ⟨(crM n c).map fun r => g.all fun p => (out n r).contains p, by rw [List.map_map]; rfl, ?_⟩
        refine .inl ⟨_, keyI g, rfl, keyD_I g, small_line (by simp; omega), ?_⟩
        rw [show (((crM n c).map fun r => g.all fun p => (out n r).contains p).any id) = dualB n c g by
          unfold dualB DW.inF
          rw [List.any_map, List.any_map]
          rfl]
        rw [putT (f := fun g => .bl (dualB n c g)) (nd_take ha.nd hg), ← take_one hg]
        exact hK _ ⟨_, _, _, _, rfl⟩
    · rintro st ⟨s4, s6, s7, s8, rfl⟩
      rw [Nat.zero_add, List.length_map, List.take_length]
      exact ⟨_, rfl, hq _ (mat_dual h)⟩

end
end K68
namespace K68
open PySem PySem.Spec PyProof.Rows L2 DW
local macro_rules | `(tactic| walk_at "dw") => `(tactic| simp only [rdS_0, rdS_s, rdO_0, rdO_1, rdO_s, startS, endD, mAdd_i, mAdd_b, mAdd_l, mAdd_t, mI_i, mIC_i, mB_i, mLen_l, mLen_t, mList_l, mList_t, mTuple_l, mTuple_t, mInt1_i, mInt1_b, mAbs_i, mIx_l, mIx_t, mSl_l, mSl_t, mSeq_l, mSeq_t, mEnum_l, mEnum_t, mFld_o, mExt_l, mRev_l, mRepr_1, put_f, put_t, frz_0, frz_1, frz_2, frz_s, wpS_0, wpS_1, DW.putAll,
  List.map_cons, List.map_nil, List.cons_append, List.nil_append, List.length_cons, List.length_nil, List.replicate_succ, List.replicate_zero, List.set_cons_zero, List.set_cons_succ, List.set_nil, Nat.reduceAdd, Nat.reduceSub, Nat.zero_add, Bool.not_true, Bool.not_false, if_true, if_false, Bool.false_eq_true, and_true, true_and, decide_eq_true_eq, eq_self, Bool.and_eq_true, Bool.or_eq_true, Bool.not_eq_true, D.bl.injEq, D.int.injEq, D.lst.injEq, D.tup.injEq, exists_eq_left', exists_eq_left, exists_eq_right])
section
variable {g : Gd} {P : Program} {w : World} {K : PySem.W.Frag} {mg : Str → Option Value} {base : Heap} {CJ CFm b c sa : Addr} {cs ns : List Int} {tr : Prop}
abbrev l_due_s : Stmt := topS 57
theorem l_due_sc : FnScope ["_law_size", "_law_tables", "_law_ranks_here", "_law_shared", "_law_group", "_law_one_here", "_law_part"] ["_law_size", "_law_tables", "_law_ranks_here"] (defScope l_due_s) := ⟨rfl, rfl, rfl, by decide +kernel, rfl, by decide +kernel, by decide +kernel⟩
theorem l_due_ok {l_due_f : Addr} {l_due_fd : FuncData} (l_due_D : Dfn K mg "_law_due" "_law_due" l_due_s ["_law_size", "_law_tables", "_law_ranks_here"] l_due_f l_due_fd) (T : Bltn mg)
    {l_groups_f : Addr} {l_groups_fd : FuncData} (l_groups_D : Dfn K mg "_law_groups" "_law_groups" l_groups_s ["_law_size"] l_groups_f l_groups_fd) (l_groups_G : FnOk P w K mg base CX0 1 l_groups_f l_groups_fd ["_law_size"] (spOf g 1 spLGroups))
    {l_rest_f : Addr} {l_rest_fd : FuncData} (l_rest_D : Dfn K mg "_law_rest" "_law_rest" l_rest_s ["_law_size", "_law_group"] l_rest_f l_rest_fd) (l_rest_G : FnOk P w K mg base CX0 1 l_rest_f l_rest_fd ["_law_size", "_law_group"] (spOf g 2 spLRest)) : FnOk P w K mg base CX0 2 l_due_f l_due_fd ["_law_size", "_law_tables", "_law_ranks_here"] (spOf g 3 spLDue2) := by
  refine def_ok l_due_D.F l_due_sc rfl (fun cdv A fr s H E hr =>
    (wss_cons (ws_set 3 (we_lc (own := [("_law_group", 4)]) rfl l_due_sc.nd (wi_seq (we_call (wa_cons (we_v 0 (pv 0)) wa_nil) (fun t h => pe_call l_groups_G (hr.mono (by decide)) (by rfl) l_groups_D.m l_groups_D.F.kp l_groups_D.b .nil pass0 h))) (blkOk_by (N := ["_law_size", "_law_tables", "_law_ranks_here", "_law_shared", "_law_group", "_law_one_here", "_law_part"]) (sc := defScope l_due_s) (own := [("_law_group", 4)]) (by decide +kernel)) (fun _ => (wg_name 4 (pg_name l_due_sc.nd rfl (by first | exact Or.inl rfl | exact Or.inr rfl)))) (fun _ => (wts_one (ww_t (ww_and (wt_val (we_dget hr.units (we_ix ix_seq s2_ix (wr_v 1 (pv 1)) (we_int).rd).rd (wr_v 4 (pv 4)))) (ww_and1 (wt_val (we_dget hr.units (we_ix ix_seq s2_ix (wr_v 1 (pv 1)) (we_int).rd).rd (wr_v 4 (pv 4))))))))) (fun _ => (we_v 4 (pv 4)))) (fun te h => ps_set (i := 3) l_due_sc.nd rfl (by first | exact Or.inl rfl | exact Or.inr rfl) h))
    (wss_cons (ws_set 4 (we_ix ix_seq s2_ix (we_lc (own := [("_law_one_here", 5)]) rfl l_due_sc.nd (wi_seq (we_v 3 (pv 3))) (blkOk_by (N := ["_law_size", "_law_tables", "_law_ranks_here", "_law_shared", "_law_group", "_law_one_here", "_law_part"]) (sc := defScope l_due_s) (own := [("_law_one_here", 5)]) (by decide +kernel)) (fun _ => (wg_name 5 (pg_name l_due_sc.nd rfl (by first | exact Or.inl rfl | exact Or.inr rfl)))) (fun _ => (wts_one (wt_cmp (op_eqF hr.units) s2_eqF (we_cb (war_cons (wr_v 5 (pv 5)) war_nil) sc_len (fun t h => pe_callB call_len_seq (by rfl) T.len (by decide +kernel) h)).rd (we_cb (war_cons (we_ix ix_seq s2_ix (wr_v 3 (pv 3)) (we_neg we_int).rd).rd war_nil) sc_len (fun t h => pe_callB call_len_seq (by rfl) T.len (by decide +kernel) h)).rd (nomark _)))) (fun _ => (we_v 5 (pv 5)))).rd (we_int).rd) (fun te h => ps_set (i := 4) l_due_sc.nd rfl (by first | exact Or.inl rfl | exact Or.inr rfl) h))
    (wss_cons (ws_for rfl (wi_seq (we_call (wa_cons (we_v 0 (pv 0)) wa_nil) (fun t h => pe_call l_groups_G (hr.mono (by decide)) (by rfl) l_groups_D.m l_groups_D.F.kp l_groups_D.b .nil pass0 h))) (wg_name 6 (pg_name l_due_sc.nd rfl (by first | exact Or.inl rfl | exact Or.inr rfl)))
    (wss_one (ws_if (wt_cmp (op_eqF hr.units) s2_eqF (we_bin op_addA s2_add (we_dget hr.units (we_ix ix_seq s2_ix (wr_v 2 (pv 2)) (we_int).rd).rd (wr_v 6 (pv 6))).rd (we_dget hr.units (we_ix ix_seq s2_ix (wr_v 2 (pv 2)) (we_int).rd).rd (we_call (wa_cons (we_v 0 (pv 0)) (wa_cons (we_v 6 (pv 6)) wa_nil)) (fun t h => pe_call l_rest_G (hr.mono (by decide)) (by rfl) l_rest_D.m l_rest_D.F.kp l_rest_D.b .nil pass0 h)).rd).rd).rd (we_cb (war_cons (wr_v 4 (pv 4)) war_nil) sc_len (fun t h => pe_callB call_len_seq (by rfl) T.len (by decide +kernel) h)).rd (nomark _)) (wss_one (ws_ret (we_tup (wa_cons (we_v 4 (pv 4)) (wa_cons (we_v 6 (pv 6)) wa_nil))))) wss_nil)))
    (wss_one (ws_ret (we_tup (wa_cons (we_v 4 (pv 4)) (wa_cons we_non wa_nil))))))))) ?_
  rintro ds Q hl ⟨n, c, d, rfl, h, k, hq⟩
  have ha := allG_gps h.n0 h.n7
  have n0 := h.n0
  have n7 := h.n7
  have hol := ha.len
  obtain ⟨p, fp, eA, gp, sp⟩ := comA_ex h k
  unfold comD at hq
  rw [eA] at hq
  have sl : (shr n c d).length ≤ 128 := Nat.le_trans (List.length_filter_le _ _) hol
  have ne : shr n c d ≠ [] := List.ne_nil_of_mem (shr_nil h k)
  obtain ⟨x, hx⟩ : ∃ x, (shr n c d).getLast? = some x := ⟨_, List.getLast?_eq_some_getLast ne⟩
  obtain ⟨a1, a2⟩ := pick_first _ (shr_ord h) x hx
  obtain ⟨q, hq2⟩ := List.getLast?_eq_some_iff.mp hx
  walk_at "dw"
  refine ⟨n, rfl, n0, n7, fun out2 ha2 => ?_⟩
  have e := allG_uniq ha2 ha
  subst e
  show ((gps n).map tI).length < sizeLine ∧ wLc _ _ _ _ ((gps n).map tI) _
  refine ⟨small_line (by rw [List.length_map]; omega), wLc_map tI (fun g => c g && d g) tI (gps n) _ (fun g hg R1 R0 h' => ?_) ?_⟩
  · walk_at "dw"
    refine ⟨_, at_zero, dget_T (f := fun g => .bl (c g)) hg ⟨_, rfl, ?_⟩⟩
    cases e1 : c g with
    | false =>
      rw [e1] at h'
      rw [if_neg (by simp)]
      exact h'
    | true =>
      rw [e1] at h'
      rw [if_pos rfl]
      exact ⟨_, at_oneP, dget_T (f := fun g => .bl (d g)) hg ⟨_, rfl, h'⟩⟩
  show ((shr n c d).map tI).length < sizeLine ∧ wLc _ _ _ _ ((shr n c d).map tI) _
  refine ⟨small_line (by rw [List.length_map]; omega), wLc_map tI (fun g => decide (g.length = x.length)) tI (shr n c d) _ (fun g hg R1 R0 h' => ?_) ?_⟩
  · walk_at "dw"
    refine len_tI ⟨tI x, ?_, len_tI (eq_int ⟨_, rfl, ?_⟩)⟩
    · rw [show (gps n).filter (fun g => c g && d g) = q ++ [x] from hq2]
      exact at_lastT
    · by_cases z : g.length = x.length
      · rw [if_pos (by simp [z])] at h'
        rw [if_pos (by simp [z])]
        exact h'
      · rw [if_neg (by simp [z])] at h'
        rw [if_neg (by simp; omega)]
        exact h'
  have aa : ((shr n c d).filter fun g => decide (g.length = x.length)).head? = some (comG n c d) := a2
  cases el : (shr n c d).filter fun g => decide (g.length = x.length) with
  | nil => rw [el] at aa; cases aa
  | cons y l =>
    rw [el] at aa
    cases aa
    refine ⟨_, at_zero, n, rfl, n0, n7, fun out2 ha2 => ?_⟩
    have e := allG_uniq ha2 ha
    subst e
    show wFor _ _ _ ((gps n).map tI) _
    refine wFor_inv (fun i st => ∃ s6 : Sl, st = [.val (.int n), .val (.lst [canM n c, canM n d]), .val (.lst [rkT n c, rkT n d]), .val (lT (shr n c d)), .val (tI (comG n c d)), .un, s6] ∧ ∀ y ∈ (gps n).take i, decide (sum2 n c d y = ((comG n c d).length : Int)) = false) (fun _ _ _ => trivial) _ 0 _ ⟨_, rfl, fun y hy => by simp at hy⟩ ?_ ?_
    · rintro i d2 hi st ⟨s6, rfl, hn⟩ K hK
      rw [Nat.zero_add] at hK hn
      obtain ⟨y, hy, rfl⟩ := row_at hi
      have my := List.mem_of_getElem? hy
      have gy := (ha.mem y).mp my
      have go : Gp n (out n y) := (gp_rg n).filter _
      walk_at "dw"
      refine ⟨_, at_zero, dget_T (f := fun g => .int (rkM n c g)) my ⟨_, at_oneP, n, y, rfl, n0, n7, gy, dget_T (f := fun g => .int (rkM n d g)) ((ha.mem _).mpr go) ?_⟩⟩
      try walk_at "dw"
      refine len_tI ?_
      refine eq_int ?_
      refine ⟨_, rfl, ?_⟩
      by_cases z : sum2 n c d y = ((comG n c d).length : Int)
      · have t := find_at hy hn (decide_eq_true z)
        rw [fp] at t
        cases t
        rw [if_pos (decide_eq_true (show rkM n c p + rkM n d (out n p) = _ from z))]
        exact ⟨le_line (by decide), hq⟩
      · rw [if_neg (show ¬ decide (rkM n c y + rkM n d (out n y) = ((comG n c d).length : Int)) = true by rw [decide_eq_true_eq]; exact z)]
        exact hK _ ⟨_, rfl, take_no hy hn (decide_eq_false z)⟩
    · rintro st ⟨s6, rfl, hn⟩
      rw [Nat.zero_add, List.length_map, List.take_length] at hn
      have := hn p ((ha.mem p).mpr gp)
      rw [decide_eq_true sp] at this
      cases this

end
end K68
namespace DW
open PySem PySem.Spec PyProof.Rows L2
theorem rel_two {g : Gd} {Av : Addr → Prop} {H : Hp} {σ : L2.St} {p : Addr} {k : Nat} (hg : g.G H) (hl : σ.length = k + 2) (h1 : σ[1]? = some (some (.ref p))) :
    Rel g Av (fun _ => False) (fun _ _ => False) H (fun _ => 0) σ (.un :: .val (.rf p) :: List.replicate k .un) H := by
  have nun : ∀ (i : Nat) (s : Sl), (List.replicate k Sl.un)[i]? = some s → s = .un := fun i s h => List.eq_of_mem_replicate (List.mem_of_getElem? h)
  refine ⟨by simp [hl], Kp.refl hg, fun i d e => ?_, fun i ds e => ?_, fun i j ds es e _ => ?_, fun a h => h.elim, fun v d h => h.elim⟩
  · match i, e with
    | 1, e => cases e; exact ⟨_, h1, .rf p⟩
    | i + 2, e => exact nomatch nun i _ e
  · match i, e with
    | i + 2, e => exact nomatch nun i _ e
  · match i, e with
    | i + 2, e => exact nomatch nun i _ e
/-- what the first statement leaves: the bag and the script in it -/
theorem bag_at {Av : Addr → Prop} {H : Hp} {v : V} {cs : List Int} (h : DR Av H v (.lst [.int 0, .int 987654321, .int 0, lI cs])) : ∃ p c, v = .ref p ∧ BagAt p c cs H := by
  cases h with
  | lst n e r =>
    rename_i p vs
    cases r with
    | cons r0 r =>
    cases r0
    cases r with
    | cons r1 r =>
    cases r1
    cases r with
    | cons r2 r =>
    cases r2
    cases r with
    | cons r3 r =>
    cases r
    cases r3 with
    | lst n2 e2 r2 =>
      rename_i c us
      cases r2.ints
      refine ⟨p, c, rfl, ⟨0, 987654321, 0, by decide, by decide, by decide, by decide, e⟩, e2, ?_⟩
      rintro rfl
      rw [e] at e2
      cases cs with
      | nil => cases e2
      | cons x cs =>
        injection e2 with e2
        injection e2 with e2
        match cs, e2 with
        | [], e2 => cases e2
        | [_], e2 => cases e2
        | [_, _], e2 => cases e2
        | [_, _, y], e2 => cases e2

def tb (c0 c1 c2 : List Int → Bool) (i : Int) : List Int → Bool := if i = 0 then c0 else if i = 1 then c1 else c2
theorem at_tb {F : Int → D} {a : Int} (h : a = 0 ∨ a = 1 ∨ a = 2) : atI [F 0, F 1, F 2] a = some (F a) := by
  rcases h with rfl | rfl | rfl
  · exact at_zero
  · exact at_oneP
  · exact atI_nat (j := 2) (v := F 2) (by simp)
def kd (n : Int) (t : Int → List Int → Bool) (g : List Int) : D := comD n (t (g.getD 0 0)) (t (g.getD 1 0))
theorem comG_sym {n : Int} {c d : List Int → Bool} : comG n c d = comG n d c := by
  unfold comG shr
  rw [show (fun g => c g && d g) = fun g => d g && c g from funext fun g => Bool.and_comm _ _]
theorem sh_com {n : Int} {c d : List Int → Bool} (h : Mat n c) (k : Mat n d) : (comD n c d).shw := by
  obtain ⟨p, _, e, gp, _⟩ := comA_ex h k
  unfold comD
  rw [e]
  exact (sh_tup (shs_cons (sh_tI ((shr_mem h).mp (com_ok h k).1).1 h.n7) (shs_cons (sh_tI gp h.n7) shs_nil))).shw
theorem ne_me {d : D} {Q : RQ} (h : d.shw) (q : Q false (.bl false)) : mNeF d d Q := .inr ⟨⟨h.1, h.2.2⟩, ⟨h.1, h.2.2⟩, by rw [eqv_me h.1]; exact q⟩
theorem ne_com {n : Int} {c d : List Int → Bool} (h : Mat n c) (k : Mat n d) {Q : RQ} (q : Q false (.bl false)) : mNeF (tI (comG n c d)) (tI (comG n d c)) Q := by
  rw [comG_sym (c := d)]
  exact ne_me (sh_tI ((shr_mem h).mp (com_ok h k).1).1 h.n7).shw q
theorem put_kd {f : List Int → D} {g : List Int} {l : List (List Int)} (h : g ∉ l) : putD (l.map fun g => (keyI g, f g)) (keyI g) (f g) = (l ++ [g]).map fun g => (keyI g, f g) := putT h
end DW
namespace K68
open PySem PySem.Spec PyProof.Rows L2 DW
local macro_rules | `(tactic| walk_at "dw") => `(tactic| simp only [rdS_0, rdS_s, rdO_0, rdO_1, rdO_s, startS, endD, mAdd_i, mAdd_b, mAdd_l, mAdd_t, mI_i, mIC_i, mB_i, mLen_l, mLen_t, mList_l, mList_t, mTuple_l, mTuple_t, mInt1_i, mInt1_b, mAbs_i, mIx_l, mIx_t, mSl_l, mSl_t, mSeq_l, mSeq_t, mEnum_l, mEnum_t, mFld_o, mExt_l, mRev_l, mRepr_1, put_f, put_t, frz_0, frz_1, frz_2, frz_s, wpS_0, wpS_1, DW.putAll,
  List.map_cons, List.map_nil, List.cons_append, List.nil_append, List.length_cons, List.length_nil, List.replicate_succ, List.replicate_zero, List.set_cons_zero, List.set_cons_succ, List.set_nil, Nat.reduceAdd, Nat.reduceSub, Nat.zero_add, Bool.not_true, Bool.not_false, if_true, if_false, Bool.false_eq_true, and_true, true_and, decide_eq_true_eq, eq_self, Bool.and_eq_true, Bool.or_eq_true, Bool.not_eq_true, D.bl.injEq, D.int.injEq, D.lst.injEq, D.tup.injEq, exists_eq_left', exists_eq_left, exists_eq_right])
section
variable {P : Program} {w : World} {K : PySem.W.Frag} {mg : Str → Option Value} {base : Heap} {CJ CFm : Addr}
abbrev l_law_s : Stmt := topS 59
theorem l_law_sc : FnScope ["_law_script", "_law_bag_here", "_law_size", "_law_tables", "_law_ranks_here", "_law_can_here", "_law_made", "_law_dues", "_law_a", "_law_b", "_law_due_here", "_law_one_here"] ["_law_script"] (defScope l_law_s) := ⟨rfl, rfl, rfl, by decide +kernel, rfl, by decide +kernel, by decide +kernel⟩
/-- the law: a list of ints is answered True -/
def spLaw (K : PySem.W.Frag) : Sp := fun vs H Q _ => ∃ (a : Addr) (ns : List Int), vs = [.ref a] ∧ SqL K H a (ns.map V.int) ∧ ∀ H', Q (.bl true) H'
theorem l_law_ok {l_law_f : Addr} {l_law_fd : FuncData} (l_law_D : Dfn K mg "law" "law" l_law_s ["_law_script"] l_law_f l_law_fd) (T : Bltn mg) (C_Family : ClsF K mg CFm)
    {Family_init_f : Addr} {Family_init_fd : FuncData} (Family_init_D : IniN K CFm "Family.__init__" Family_init_s ["self", "size", "crews"] Family_init_f Family_init_fd) (Family_init_H : ∀ (b c : Addr) (cs : List Int), (∀ n ∈ cs, 0 ≤ n) → FnOk P w K mg base CX0 5 Family_init_f Family_init_fd ["self", "size", "crews"] (spIni (Bg b c cs) CFm 2 (famM)))
    {l_alike_f : Addr} {l_alike_fd : FuncData} (l_alike_D : Dfn K mg "_law_alike" "_law_alike" l_alike_s ["_law_found", "_law_due_here"] l_alike_f l_alike_fd) (l_alike_H : ∀ (b c : Addr) (cs : List Int), (∀ n ∈ cs, 0 ≤ n) → FnG P w K mg base CX0 1 l_alike_f l_alike_fd ["_law_found", "_law_due_here"] (spOf (Bg b c cs) 2 spAlike))
    {l_crews_f : Addr} {l_crews_fd : FuncData} (l_crews_D : Dfn K mg "_law_crews" "_law_crews" l_crews_s ["_law_size", "_law_can_here"] l_crews_f l_crews_fd) (l_crews_H : ∀ (b c : Addr) (cs : List Int), (∀ n ∈ cs, 0 ≤ n) → FnOk P w K mg base CX0 2 l_crews_f l_crews_fd ["_law_size", "_law_can_here"] (spOf (Bg b c cs) 2 spLCrewsM))
    {l_drawn_f : Addr} {l_drawn_fd : FuncData} (l_drawn_D : Dfn K mg "_law_drawn" "_law_drawn" l_drawn_s ["_law_bag_here", "_law_size"] l_drawn_f l_drawn_fd) (l_drawn_H : ∀ (b c : Addr) (cs : List Int), (∀ n ∈ cs, 0 ≤ n) → FnOk P w K mg base CX0 5 l_drawn_f l_drawn_fd ["_law_bag_here", "_law_size"] (spOf (Bg b c cs) 2 (spDrawn b)))
    {l_due_f : Addr} {l_due_fd : FuncData} (l_due_D : Dfn K mg "_law_due" "_law_due" l_due_s ["_law_size", "_law_tables", "_law_ranks_here"] l_due_f l_due_fd) (l_due_H : ∀ (b c : Addr) (cs : List Int), (∀ n ∈ cs, 0 ≤ n) → FnOk P w K mg base CX0 2 l_due_f l_due_fd ["_law_size", "_law_tables", "_law_ranks_here"] (spOf (Bg b c cs) 3 spLDue2))
    {l_groups_f : Addr} {l_groups_fd : FuncData} (l_groups_D : Dfn K mg "_law_groups" "_law_groups" l_groups_s ["_law_size"] l_groups_f l_groups_fd) (l_groups_H : ∀ (b c : Addr) (cs : List Int), (∀ n ∈ cs, 0 ≤ n) → FnOk P w K mg base CX0 1 l_groups_f l_groups_fd ["_law_size"] (spOf (Bg b c cs) 1 spLGroups))
    {l_one_f : Addr} {l_one_fd : FuncData} (l_one_D : Dfn K mg "_law_one" "_law_one" l_one_s ["_law_bag_here", "_law_things"] l_one_f l_one_fd) (l_one_H : ∀ (b c : Addr) (cs : List Int), (∀ n ∈ cs, 0 ≤ n) → FnOk P w K mg base CX0 2 l_one_f l_one_fd ["_law_bag_here", "_law_things"] (spOf (Bg b c cs) 2 (spOne b)))
    {l_ranks_f : Addr} {l_ranks_fd : FuncData} (l_ranks_D : Dfn K mg "_law_ranks" "_law_ranks" l_ranks_s ["_law_size", "_law_can_here"] l_ranks_f l_ranks_fd) (l_ranks_H : ∀ (b c : Addr) (cs : List Int), (∀ n ∈ cs, 0 ≤ n) → FnOk P w K mg base CX0 2 l_ranks_f l_ranks_fd ["_law_size", "_law_can_here"] (spOf (Bg b c cs) 2 spLRanksM))
    {l_rest_f : Addr} {l_rest_fd : FuncData} (l_rest_D : Dfn K mg "_law_rest" "_law_rest" l_rest_s ["_law_size", "_law_group"] l_rest_f l_rest_fd) (l_rest_H : ∀ (b c : Addr) (cs : List Int), (∀ n ∈ cs, 0 ≤ n) → FnOk P w K mg base CX0 1 l_rest_f l_rest_fd ["_law_size", "_law_group"] (spOf (Bg b c cs) 2 spLRest))
    {l_second_f : Addr} {l_second_fd : FuncData} (l_second_D : Dfn K mg "_law_second" "_law_second" l_second_s ["_law_bag_here", "_law_size", "_law_table"] l_second_f l_second_fd) (l_second_H : ∀ (b c : Addr) (cs : List Int), (∀ n ∈ cs, 0 ≤ n) → FnOk P w K mg base CX0 6 l_second_f l_second_fd ["_law_bag_here", "_law_size", "_law_table"] (spOf (Bg b c cs) 3 (spSecond b)))
    {common_f : Addr} {common_fd : FuncData} (common_D : Dfn K mg "common" "common" common_s ["one", "other"] common_f common_fd) (common_H : ∀ (b c : Addr) (cs : List Int), (∀ n ∈ cs, 0 ≤ n) → FnOk P w K mg base CX0 4 common_f common_fd ["one", "other"] (spOf (Bg b c cs) 2 (spCommon CFm)))
    {l_bag_f : Addr} {l_bag_fd : FuncData} (l_bag_D : Dfn K mg "_law_bag" "_law_bag" l_bag_s ["_law_script"] l_bag_f l_bag_fd) (l_bag_H : ∀ (sa : Addr) (ns : List Int) (tr : Prop), FnOk P w K mg base CX0 1 l_bag_f l_bag_fd ["_law_script"] (spOf (gS K sa (ns.map V.int) tr) 1 (spBag sa ns))) : FnG P w K mg base CX0 7 l_law_f l_law_fd ["_law_script"] (spLaw K) := by
  refine Fun.okG l_law_D.F l_law_sc (fun vs H Q E h => by obtain ⟨a, ns, rfl, _⟩ := h; rfl) (fun cdv A fr s H vs Q E gd hr h => ?_)
  obtain ⟨sa, ns, rfl, hS, hQ⟩ := h
  have l_bag_G := l_bag_H sa ns (Rd H sa (.lst (ns.map V.int)))
  have hgS := gS_of hS
  let X := (cxOf CX0 P w K mg base ["_law_script", "_law_bag_here", "_law_size", "_law_tables", "_law_ranks_here", "_law_can_here", "_law_made", "_law_dues", "_law_a", "_law_b", "_law_due_here", "_law_one_here"] "law" (defScope l_law_s) l_law_f cdv A fr s H E).nox
  obtain ⟨t1, p1, q1⟩ := (show WS (gS K sa (ns.map V.int) (Rd H sa (.lst (ns.map V.int)))) X ((defBody l_law_s).getD 0 (.Pass ⟨0, 0, 0, 0⟩)) _ from (ws_set 1 (we_call (wa_cons (we_v 0 (pv 0)) wa_nil) (fun t h => pe_call l_bag_G (hr.mono (by decide)) (by rfl) l_bag_D.m l_bag_D.F.kp l_bag_D.b .nil pass0 h)) (fun te h => ps_set (i := 1) l_law_sc.nd rfl (by first | exact Or.inl rfl | exact Or.inr rfl) h)))
  obtain ⟨t2, p2, q2⟩ := wss_ex (ι := Addr × Addr × List Int) (P := fun i => ∀ n ∈ i.2.2, 0 ≤ n) (g := fun i => Bg i.1 i.2.1 i.2.2) (X := X) (ss := (defBody l_law_s).drop 1)
    (w := fun i De st => st = .un :: .val (.rf i.1) :: List.replicate 10 .un ∧ De = ⟨fun _ => False, fun _ d => d = .bl true, fun _ => False, fun _ => False⟩) (by
    rintro ⟨b, c, cs⟩ hcs
    have Family_init_G := Family_init_H b c cs hcs
    have l_alike_G := l_alike_H b c cs hcs
    have l_crews_G := l_crews_H b c cs hcs
    have l_drawn_G := l_drawn_H b c cs hcs
    have l_due_G := l_due_H b c cs hcs
    have l_groups_G := l_groups_H b c cs hcs
    have l_one_G := l_one_H b c cs hcs
    have l_ranks_G := l_ranks_H b c cs hcs
    have l_rest_G := l_rest_H b c cs hcs
    have l_second_G := l_second_H b c cs hcs
    have common_G := common_H b c cs hcs
    refine WSs.imp (show WSs (Bg b c cs) X ((defBody l_law_s).drop 1) _ from (wss_cons (ws_set 2 (we_call (wa_cons (we_v 1 (pv 1)) (wa_cons (we_lst (wa_cons we_int (wa_cons we_int (wa_cons we_int (wa_cons we_int (wa_cons we_int (wa_cons we_int (wa_cons we_int (wa_cons we_int wa_nil))))))))) wa_nil)) (fun t h => pe_call l_one_G (hr.mono (by decide)) (by rfl) l_one_D.m l_one_D.F.kp l_one_D.b .nil pass0 h)) (fun te h => ps_set (i := 2) l_law_sc.nd rfl (by first | exact Or.inl rfl | exact Or.inr rfl) h))
    (wss_cons (ws_own 3 (we_lst (wa_cons (we_call (wa_cons (we_v 1 (pv 1)) (wa_cons (we_v 2 (pv 2)) wa_nil)) (fun t h => pe_call l_drawn_G (hr.mono (by decide)) (by rfl) l_drawn_D.m l_drawn_D.F.kp l_drawn_D.b .nil pass0 h)) wa_nil)) (fun te h => ps_set (i := 3) l_law_sc.nd rfl (by first | exact Or.inl rfl | exact Or.inr rfl) h))
    (wss_cons (ws_appendE 3 (we_call (wa_cons (we_v 1 (pv 1)) (wa_cons (we_v 2 (pv 2)) (wa_cons (we_ix ix_seq s2_ix (wr_v 3 (pv 3)) (we_int).rd) wa_nil))) (fun t h => pe_call l_second_G (hr.mono (by decide)) (by rfl) l_second_D.m l_second_D.F.kp l_second_D.b .nil pass0 h)) (fun te h => ps_expr (pe_bm PySem.F.plainAttrs_list PySem.F.slot_list_append PySem.F.type_list_append mt_append (pv 3) (pa_cons h pa_nil))))
    (wss_cons (ws_appendE 3 (we_call (wa_cons (we_v 1 (pv 1)) (wa_cons (we_v 2 (pv 2)) (wa_cons (we_ix ix_seq s2_ix (wr_v 3 (pv 3)) (we_int).rd) wa_nil))) (fun t h => pe_call l_second_G (hr.mono (by decide)) (by rfl) l_second_D.m l_second_D.F.kp l_second_D.b .nil pass0 h)) (fun te h => ps_expr (pe_bm PySem.F.plainAttrs_list PySem.F.slot_list_append PySem.F.type_list_append mt_append (pv 3) (pa_cons h pa_nil))))
    (wss_frz 3 (wss_cons (ws_set 4 (we_lc (own := [("_law_can_here", 5)]) rfl l_law_sc.nd (wi_seq (we_v 3 (pv 3))) (blkOk_by (N := ["_law_script", "_law_bag_here", "_law_size", "_law_tables", "_law_ranks_here", "_law_can_here", "_law_made", "_law_dues", "_law_a", "_law_b", "_law_due_here", "_law_one_here"]) (sc := defScope l_law_s) (own := [("_law_can_here", 5)]) (by decide +kernel)) (fun _ => (wg_name 5 (pg_name l_law_sc.nd rfl (by first | exact Or.inl rfl | exact Or.inr rfl)))) (fun _ => wts_nil) (fun _ => (we_call (wa_cons (we_v 2 (pv 2)) (wa_cons (we_v 5 (pv 5)) wa_nil)) (fun t h => pe_call l_ranks_G (hr.mono (by decide)) (by rfl) l_ranks_D.m l_ranks_D.F.kp l_ranks_D.b .nil pass0 h)))) (fun te h => ps_set (i := 4) l_law_sc.nd rfl (by first | exact Or.inl rfl | exact Or.inr rfl) h))
    (wss_cons (ws_setLc (own := [("_law_can_here", 5)]) 6 false rfl l_law_sc.nd rfl rfl (sw_true rfl rfl rfl (by decide +kernel)) (wi_seq (we_v 3 (pv 3))) (blkOk_by (N := ["_law_script", "_law_bag_here", "_law_size", "_law_tables", "_law_ranks_here", "_law_can_here", "_law_made", "_law_dues", "_law_a", "_law_b", "_law_due_here", "_law_one_here"]) (sc := defScope l_law_s) (own := [("_law_can_here", 5)]) (by decide +kernel)) (fun _ => (wg_name 5 (pg_name l_law_sc.nd rfl (by first | exact Or.inl rfl | exact Or.inr rfl)))) (fun _ => wts_nil) (fun _ => (make_I (wa_cons (we_v 2 (pv 2)) (wa_cons (we_call (wa_cons (we_v 2 (pv 2)) (wa_cons (we_v 5 (pv 5)) wa_nil)) (fun t h => pe_call l_crews_G (hr.mono (by decide)) (by rfl) l_crews_D.m l_crews_D.F.kp l_crews_D.b .nil pass0 h)) wa_nil)) (fun t h => pe_make Family_init_D.made Family_init_G (hr.mono (by decide)) (by rfl) C_Family.mg Family_init_D.b .nil pass0 h))))
    (wss_cons (ws_ownDT 7 (fun te h => ps_set (i := 7) l_law_sc.nd rfl (by first | exact Or.inl rfl | exact Or.inr rfl) h))
    (wss_cons (ws_for rfl (wi_seq (we_lst (wa_cons (we_tup (wa_cons we_int (wa_cons we_int wa_nil))) (wa_cons (we_tup (wa_cons we_int (wa_cons we_int wa_nil))) (wa_cons (we_tup (wa_cons we_int (wa_cons we_int wa_nil))) (wa_cons (we_tup (wa_cons we_int (wa_cons we_int wa_nil))) (wa_cons (we_tup (wa_cons we_int (wa_cons we_int wa_nil))) (wa_cons (we_tup (wa_cons we_int (wa_cons we_int wa_nil))) (wa_cons (we_tup (wa_cons we_int (wa_cons we_int wa_nil))) wa_nil))))))))) (wg_tup [8, 9] rfl (pg_tup rfl (pgs_cons (pg_name (i := 8) l_law_sc.nd rfl (by first | exact Or.inl rfl | exact Or.inr rfl)) (pgs_cons (pg_name (i := 9) l_law_sc.nd rfl (by first | exact Or.inl rfl | exact Or.inr rfl)) pgs_nil))))
    (wss_cons (ws_if (wt_dnotin hr.units (we_tup (wa_cons (we_v 8 (pv 8)) (wa_cons (we_v 9 (pv 9)) wa_nil))).rd (wr_v 7 (pv 7))) (wss_one (ws_dput 7 hr.units (we_call (wa_cons (we_v 2 (pv 2)) (wa_cons (we_lst (wa_cons (we_ix ix_seq s2_ix (wr_v 3 (pv 3)) (wr_v 8 (pv 8))) (wa_cons (we_ix ix_seq s2_ix (wr_v 3 (pv 3)) (wr_v 9 (pv 9))) wa_nil))) (wa_cons (we_lst (wa_cons (we_ix ix_seq s2_ix (wr_v 4 (pv 4)) (wr_v 8 (pv 8))) (wa_cons (we_ix ix_seq s2_ix (wr_v 4 (pv 4)) (wr_v 9 (pv 9))) wa_nil))) wa_nil))) (fun t h => pe_call l_due_G (hr.mono (by decide)) (by rfl) l_due_D.m l_due_D.F.kp l_due_D.b .nil pass0 h)) (pv 7) (we_tup (wa_cons (we_v 8 (pv 8)) (wa_cons (we_v 9 (pv 9)) wa_nil))).rd)) wss_nil)
    (wss_cons (ws_if (wt_not (wt_val (we_call (wa_cons (we_call (wa_cons (we_ix ix_seq s2_ix (wr_v 6 (pv 6)) (wr_v 8 (pv 8))) (wa_cons (we_ix ix_seq s2_ix (wr_v 6 (pv 6)) (wr_v 9 (pv 9))) wa_nil)) (fun t h => pe_call common_G (hr.mono (by decide)) (by rfl) common_D.m common_D.F.kp common_D.b .nil pass0 h)) (wa_cons (we_dget hr.units (wr_v 7 (pv 7)) (we_tup (wa_cons (we_v 8 (pv 8)) (wa_cons (we_v 9 (pv 9)) wa_nil))).rd) wa_nil)) (fun t h => pe_callG l_alike_G gd (hr.mono (by decide)) (by rfl) l_alike_D.m l_alike_D.F.kp l_alike_D.b .nil pass0 h)))) (wss_one (ws_ret we_bl)) wss_nil)
    (wss_one (ws_if (ww_t (ww_and (wt_din hr.units (we_tup (wa_cons (we_v 9 (pv 9)) (wa_cons (we_v 8 (pv 8)) wa_nil))).rd (wr_v 7 (pv 7))) (ww_and1 (wt_cmp (op_neF hr.units) s2_neF (we_ix ix_seq s2_ix (we_dget hr.units (wr_v 7 (pv 7)) (we_tup (wa_cons (we_v 9 (pv 9)) (wa_cons (we_v 8 (pv 8)) wa_nil))).rd).rd (we_int).rd).rd (we_ix ix_seq s2_ix (we_dget hr.units (wr_v 7 (pv 7)) (we_tup (wa_cons (we_v 8 (pv 8)) (wa_cons (we_v 9 (pv 9)) wa_nil))).rd).rd (we_int).rd).rd (nomark _))))) (wss_one (ws_ret we_bl)) wss_nil)))))
    (wss_cons (ws_set 10 (we_dget hr.units (wr_v 7 (pv 7)) (we_tup (wa_cons we_int (wa_cons we_int wa_nil))).rd) (fun te h => ps_set (i := 10) l_law_sc.nd rfl (by first | exact Or.inl rfl | exact Or.inr rfl) h))
    (wss_one (ws_ret (we_cmp (op_eqF hr.units) s2_eqF (we_cb (war_cons (we_ix ix_seq s2_ix (wr_v 10 (pv 10)) (we_int).rd).rd war_nil) sc_len (fun t h => pe_callB call_len_seq (by rfl) T.len (by decide +kernel) h)).rd (we_cb (war_cons (we_lc (own := [("_law_one_here", 11)]) rfl l_law_sc.nd (wi_seq (we_call (wa_cons (we_v 2 (pv 2)) wa_nil) (fun t h => pe_call l_groups_G (hr.mono (by decide)) (by rfl) l_groups_D.m l_groups_D.F.kp l_groups_D.b .nil pass0 h))) (blkOk_by (N := ["_law_script", "_law_bag_here", "_law_size", "_law_tables", "_law_ranks_here", "_law_can_here", "_law_made", "_law_dues", "_law_a", "_law_b", "_law_due_here", "_law_one_here"]) (sc := defScope l_law_s) (own := [("_law_one_here", 11)]) (by decide +kernel)) (fun _ => (wg_name 11 (pg_name l_law_sc.nd rfl (by first | exact Or.inl rfl | exact Or.inr rfl)))) (fun _ => wts_nil) (fun _ => (we_bin op_addA s2_add (we_dget hr.units (we_ix ix_seq s2_ix (wr_v 4 (pv 4)) (we_int).rd).rd (wr_v 11 (pv 11))).rd (we_dget hr.units (we_ix ix_seq s2_ix (wr_v 4 (pv 4)) (we_int).rd).rd (we_call (wa_cons (we_v 2 (pv 2)) (wa_cons (we_v 11 (pv 11)) wa_nil)) (fun t h => pe_call l_rest_G (hr.mono (by decide)) (by rfl) l_rest_D.m l_rest_D.F.kp l_rest_D.b .nil pass0 h)).rd).rd))).rd war_nil) sc_minL (fun t h => pe_callB (cr_min rfl) (by rfl) T.min (by decide +kernel) h)).rd (nomark _))))))))))))))) ?_
    rintro De st ⟨rfl, rfl⟩
    walk_at "dw"
    refine ⟨le_line (by decide), ?_⟩
    refine ⟨_, rfl, by simp, by simp, fun x hx => ?_⟩
    obtain ⟨n, rfl, n0, n7⟩ : ∃ n : Int, x = .int n ∧ 0 ≤ n ∧ n ≤ 7 := by
      simp only [List.mem_cons, List.mem_nil_iff, or_false] at hx
      rcases hx with rfl | rfl | rfl | rfl | rfl | rfl | rfl | rfl
      all_goals exact ⟨_, rfl, by decide, by decide⟩
    clear hx
    try walk_at "dw"
    refine ⟨n, rfl, n0, n7, fun c0 h0 => ?_⟩
    try walk_at "dw"
    refine ⟨le_line (by decide), _, rfl, _, at_zero, n, c0, rfl, h0, fun c1 h1 => ?_⟩
    try walk_at "dw"
    refine ⟨small_line (by decide), _, rfl, _, at_oneP, n, c1, rfl, h1, fun c2 h2 => ?_⟩
    try walk_at "dw"
    refine ⟨small_line (by simp), small_line (by simp), ?_⟩
    have hM : ∀ i : Int, Mat n (tb c0 c1 c2 i) := fun i => by
      unfold tb
      split
      · exact h0
      · split
        · exact h1
        · exact h2
    have e0 : [canM n c0, canM n c1, canM n c2] = ([0, 1, 2] : List Int).map fun i => canM n (tb c0 c1 c2 i) := rfl
    have ha := allG_gps n0 n7
    have hol := ha.len
    rw [e0]
    generalize tb c0 c1 c2 = t at hM
    refine wLc_all (fun i => canM n (t i)) (fun i => rkT n (t i)) [0, 1, 2] _ (fun i hi R h' => ?_) ?_
    · walk_at "dw"
      exact ⟨n, t i, rfl, hM i, h'⟩
    refine ⟨small_line (by simp), ?_⟩
    refine wLc_all (fun i => canM n (t i)) (fun i => fM CFm n (t i)) [0, 1, 2] _ (fun i hi R h' => ?_) ?_
    · walk_at "dw"
      have hcl := fam_len (hM i).fam
      exact ⟨n, t i, rfl, hM i, n, crM n (t i), mrM n (t i), crM n (t i), .inl rfl, by omega, fun x => Iff.rfl, (hM i).fam, h'⟩
    refine ⟨le_line (by decide), le_line (by decide), le_line (by decide), le_line (by decide), le_line (by decide), le_line (by decide), le_line (by decide), le_line (by decide), ?_⟩
    show wFor _ _ _ (([[0, 1], [1, 0], [0, 2], [2, 0], [1, 2], [0, 1], [1, 0]] : List (List Int)).map tI) _
    refine wFor_inv (fun i st => ∃ (L : List (List Int)) (s8 s9 : Sl), st = [.un, .val (.rf b), .val (.int n), .val (.lst (([0, 1, 2] : List Int).map fun i => canM n (t i))), .val (.lst (([0, 1, 2] : List Int).map fun i => rkT n (t i))), .un, .val (.lst (([0, 1, 2] : List Int).map fun i => fM CFm n (t i))), .ow (.dT (L.map fun g => (keyI g, kd n t g))), s8, s9, .un, .un] ∧ L.length ≤ i ∧ (0 < i → [0, 1] ∈ L)) (fun _ _ _ => trivial) _ 0 _ ⟨[], _, _, rfl, Nat.le_refl _, fun z => absurd z (Nat.lt_irrefl 0)⟩ ?_ ?_
    · rintro i d hi st ⟨L, s8, s9, rfl, lL, z1⟩ K hK
      rw [Nat.zero_add] at hK lL z1
      obtain ⟨g, hg, rfl⟩ := row_at hi
      have hi7 : i < 7 := (List.getElem?_eq_some_iff.mp hg).1
      obtain ⟨a, b', rfl, va, vb, v0⟩ : ∃ a b' : Int, g = [a, b'] ∧ (a = 0 ∨ a = 1 ∨ a = 2) ∧ (b' = 0 ∨ b' = 1 ∨ b' = 2) ∧ (i = 0 → g = [0, 1]) := by
        rcases (by omega : i = 0 ∨ i = 1 ∨ i = 2 ∨ i = 3 ∨ i = 4 ∨ i = 5 ∨ i = 6) with rfl | rfl | rfl | rfl | rfl | rfl | rfl
        all_goals simp at hg
        all_goals subst hg
        all_goals exact ⟨_, _, rfl, by decide, by decide, by simp⟩
      refine ⟨_, rfl, rfl, ?_⟩
      simp only [DW.putAll]
      walk_at "dw"
      refine ⟨le_line (by decide), .inl ⟨_, keyI [a, b'], rfl, keyD_I [a, b'], _, rfl, ?_⟩⟩
      rw [valT_some (f := kd n t)]
      by_cases z : [a, b'] ∈ L
      · rw [if_neg (by simp [z])]
        have lL2 : L.length ≤ i + 1 := by omega
        have z2 : [0, 1] ∈ L := by
          by_cases q : 0 < i
          · exact z1 q
          · have := v0 (by omega)
            rw [← this]; exact z
        refine ⟨_, at_tb (F := fun i => fM CFm n (t i)) va, _, at_tb (F := fun i => fM CFm n (t i)) vb, n, _, _, rfl, hM a, hM b', le_line (by decide), ?_⟩
        refine dget_T (f := kd n t) (g := [a, b']) z ⟨_, rfl, sh_com (hM a) (hM b'), _, rfl, ?_⟩
        rw [if_neg (by simp)]
        refine ⟨le_line (by decide), .inl ⟨_, keyI [b', a], rfl, keyD_I [b', a], _, rfl, ?_⟩⟩
        rw [valT_some (f := kd n t)]
        simp only [Bool.false_eq_true, if_false]
        by_cases w : [b', a] ∈ L
        · rw [if_pos (decide_eq_true w)]
          refine ⟨le_line (by decide), dget_T (f := kd n t) (g := [b', a]) w ⟨_, at_zero, le_line (by decide), dget_T (f := kd n t) (g := [a, b']) z ⟨_, at_zero, ?_⟩⟩⟩
          refine ne_com (n := n) (c := t b') (d := t a) (hM b') (hM a) ?_
          refine ⟨_, rfl, ?_⟩
          rw [if_neg (by simp)]
          exact hK _ ⟨L, _, _, rfl, lL2, fun _ => z2⟩
        · rw [if_neg (by simpa using w)]
          exact hK _ ⟨L, _, _, rfl, lL2, fun _ => z2⟩

      · rw [if_pos (by simp [z])]
        have lL2 : (L ++ [[a, b']]).length ≤ i + 1 := by rw [List.length_append]; simp; omega
        have zM : [a, b'] ∈ L ++ [[a, b']] := List.mem_append.mpr (.inr (List.mem_singleton.mpr rfl))
        have z2 : [0, 1] ∈ L ++ [[a, b']] := by
          by_cases q : 0 < i
          · exact List.mem_append.mpr (.inl (z1 q))
          · have := v0 (by omega)
            rw [← this]; exact zM
        refine ⟨⟨_, rfl⟩, _, at_tb (F := fun i => canM n (t i)) va, _, at_tb (F := fun i => canM n (t i)) vb, le_line (by decide), _, at_tb (F := fun i => rkT n (t i)) va, _, at_tb (F := fun i => rkT n (t i)) vb, le_line (by decide), ?_⟩
        refine ⟨n, t a, t b', rfl, hM a, hM b', le_line (by decide), ?_⟩
        refine .inl ⟨_, keyI [a, b'], rfl, keyD_I [a, b'], small_line (by simp; omega), ?_⟩
        rw [show comD n (t a) (t b') = kd n t [a, b'] from rfl, put_kd (f := kd n t) z]
        refine ⟨_, at_tb (F := fun i => fM CFm n (t i)) va, _, at_tb (F := fun i => fM CFm n (t i)) vb, n, _, _, rfl, hM a, hM b', le_line (by decide), ?_⟩
        refine dget_T (f := kd n t) (g := [a, b']) zM ⟨_, rfl, sh_com (hM a) (hM b'), _, rfl, ?_⟩
        rw [if_neg (by simp)]
        refine ⟨le_line (by decide), .inl ⟨_, keyI [b', a], rfl, keyD_I [b', a], _, rfl, ?_⟩⟩
        rw [valT_some (f := kd n t)]
        simp only [Bool.false_eq_true, if_false]
        by_cases w : [b', a] ∈ (L ++ [[a, b']])
        · rw [if_pos (decide_eq_true w)]
          refine ⟨le_line (by decide), dget_T (f := kd n t) (g := [b', a]) w ⟨_, at_zero, le_line (by decide), dget_T (f := kd n t) (g := [a, b']) zM ⟨_, at_zero, ?_⟩⟩⟩
          refine ne_com (n := n) (c := t b') (d := t a) (hM b') (hM a) ?_
          refine ⟨_, rfl, ?_⟩
          rw [if_neg (by simp)]
          exact hK _ ⟨(L ++ [[a, b']]), _, _, rfl, lL2, fun _ => z2⟩
        · rw [if_neg (by simpa using w)]
          exact hK _ ⟨(L ++ [[a, b']]), _, _, rfl, lL2, fun _ => z2⟩

    · rintro st ⟨L, s8, s9, rfl, lL, z1⟩
      have z2 := z1 (by decide)
      obtain ⟨p, _, eA, gp, sp⟩ := comA_ex (hM 0) (hM 1)
      walk_at "dw"
      refine ⟨le_line (by decide), dget_T (f := kd n t) (g := [0, 1]) z2 ?_⟩
      try walk_at "dw"
      refine ⟨_, at_zero, ?_⟩
      try walk_at "dw"
      refine len_tI ⟨n, rfl, n0, n7, fun out2 ha2 => ?_⟩
      have e := allG_uniq ha2 ha
      subst e
      show ((gps n).map tI).length < sizeLine ∧ wLc _ _ _ _ ((gps n).map tI) _
      refine ⟨small_line (by rw [List.length_map]; omega), wLc_all tI (fun g => .int (sum2 n (t 0) (t 1) g)) (gps n) _ (fun g hg R h' => ?_) ?_⟩
      · walk_at "dw"
        refine ⟨_, at_zero, dget_T (f := fun g => .int (rkM n (t 0) g)) hg ⟨_, at_oneP, n, g, rfl, n0, n7, (ha.mem g).mp hg, dget_T (f := fun g => .int (rkM n (t 1) g)) ((ha.mem _).mpr ((gp_rg n).filter _)) ?_⟩⟩
        exact h'
      refine ⟨(gps n).map (sum2 n (t 0) (t 1)), by rw [List.map_map]; rfl, by rw [List.length_map]; exact List.length_pos_of_mem ((ha.mem []).mpr (gp_nil n)), fun m hm hle => ?_⟩
      have em : m = ((comG n (t 0) (t 1)).length : Int) := by
        obtain ⟨g, hg, rfl⟩ := List.mem_map.mp hm
        have a := sum2_ge (hM 0) (hM 1) ((ha.mem g).mp hg)
        have b := hle _ (List.mem_map.mpr ⟨p, (ha.mem p).mpr gp, rfl⟩)
        omega
      rw [em]
      refine eq_int ?_
      show D.bl _ = D.bl true
      rw [show decide (((comG n (t ([0, 1].getD 0 0)) (t ([0, 1].getD 1 0))).length : Int) = ((comG n (t 0) (t 1)).length : Int)) = true from decide_eq_true rfl]
    )
  refine ⟨_, pss_cons p1 p2, ?_⟩
  refine q1 (fun b => Rd H sa (.lst (ns.map V.int)) ∧ b = sa) (fun _ => False) (fun _ _ => False) H (fun _ => 0) _ (startS ["_law_script", "_law_bag_here", "_law_size", "_law_tables", "_law_ranks_here", "_law_can_here", "_law_made", "_law_dues", "_law_a", "_law_b", "_law_due_here", "_law_one_here"] [.rf sa]) H _ ⟨fun st => st[1]? = some (.val (.lst [.int 0, .int 987654321, .int 0, lI (absI ns)])) ∧ st.length = 12, fun _ _ => False, fun _ => False, fun _ => False⟩ hgS ⟨fun a h => h, (gS K sa (ns.map V.int) _).tr H hgS⟩ (start_rel (N := ["_law_script", "_law_bag_here", "_law_size", "_law_tables", "_law_ranks_here", "_law_can_here", "_law_made", "_law_dues", "_law_a", "_law_b", "_law_due_here", "_law_one_here"]) hgS (.cons (.rf sa) .nil)) ?_ ⟨?_, fun _ _ _ _ _ _ z => z.elim, fun _ _ _ _ _ z => z.elim, fun _ _ _ _ _ z => z.elim⟩
  · exact ⟨rfl, rfl, rfl, rfl⟩
  rintro o σ st H1 R1 ⟨e1, e2⟩
  obtain ⟨v, ev, dv⟩ := R1.val 1 _ e1
  obtain ⟨b, c, rfl, hb⟩ := bag_at dv
  have hlen : σ.length = 10 + 2 := R1.len.trans e2
  have hgB : (Bg b c (absI ns)).G H1 := hb
  refine q2 (b, c, absI ns) (absI_pos ns) (Bg b c (absI ns)).T (fun _ => False) (fun _ _ => False) H1 (fun _ => 0) σ _ H1 _ ⟨fun _ => False, fun _ d => d = .bl true, fun _ => False, fun _ => False⟩ hgB ⟨fun a h => h, (Bg b c (absI ns)).tr H1 hgB⟩ (rel_two hgB hlen ev) ?_ ⟨fun _ _ _ _ _ z => z.elim, fun fr d v H' k r z => ?_, fun _ _ _ _ _ z => z.elim, fun _ _ _ _ _ z => z.elim⟩
  · exact ⟨rfl, rfl⟩
  · subst z
    have r := r.dr
    cases r
    exact hQ H'
end
end K68
namespace K68
open PySem PySem.Spec PyProof.Rows L2 DW
theorem all_mk {l : PySem.W.OpenLaw} {w : World} {K : PySem.W.Frag} {h : Heap} {mg : Str → Option Value} {fa CFm : Addr} (X : K.In h) (G : h.Ns mainGlobals mg) (hfa : mg "law" = some (.ref fa))
    {f1 f2 f3 f4 f5 f6 f7 f8 f9 f10 f11 f12 f13 f14 f15 f16 f17 f18 f19 f20 f21 f22 f23 f24 f25 f26 f27 f28 f29 f30 f31 f32 f33 f34 f35 f36 f37 f38 : Addr} {od1 od2 od3 od4 od5 od6 od7 od8 od9 od10 od11 od12 od13 od14 od15 od16 od17 od18 od19 od20 od21 od22 od23 od24 od25 od26 od27 od28 od29 od30 od31 od32 od33 od34 od35 od36 od37 od38 : Option Addr} {an1 an2 an3 an4 an5 an6 an7 an8 an9 an10 an11 an12 an13 an14 an15 an16 an17 an18 an19 an20 an21 an22 an23 an24 an25 an26 an27 an28 an29 an30 an31 an32 an33 an34 an35 an36 an37 an38 : Option Addr} {sl1 sl2 sl3 sl4 sl5 sl6 sl7 sl8 sl9 sl10 sl11 sl12 sl13 sl14 sl15 sl16 sl17 sl18 sl19 sl20 sl21 sl22 sl23 sl24 sl25 sl26 sl27 sl28 sl29 sl30 sl31 sl32 sl33 sl34 sl35 sl36 sl37 sl38 : Array (Option Value)}
    {oc1 oc2 oc3 oc4 oc5 oc6 oc7 oc8 oc9 oc10 oc11 oc12 oc13 oc14 oc15 oc16 oc17 oc18 oc19 oc20 oc21 oc22 oc23 oc24 oc25 oc26 oc27 oc28 oc29 oc30 oc31 oc32 oc33 oc34 oc35 oc36 oc37 oc38 kV1 kV2 kV3 kV4 kV5 kV6 kV7 kV8 kV9 kV10 kV11 kV12 kV13 kV14 kV15 kV16 kV17 kV18 kV19 kV20 kV21 kV22 kV23 kV24 kV25 kV26 kV27 kV28 kV29 kV30 kV31 kV32 kV33 kV34 kV35 kV36 kV37 kV38 dc1 dc2 dc3 dc4 dc5 dc6 dc7 dc8 dc9 dc10 dc11 dc12 dc13 dc14 dc15 dc16 dc17 dc18 dc19 dc20 dc21 dc22 dc23 dc24 dc25 dc26 dc27 dc28 dc29 dc30 dc31 dc32 dc33 dc34 dc35 dc36 dc37 dc38 pm1 pm2 pm3 pm4 pm5 pm6 pm7 pm8 pm9 pm10 pm11 pm12 pm13 pm14 pm15 pm16 pm17 pm18 pm19 pm20 pm21 pm22 pm23 pm24 pm25 pm26 pm27 pm28 pm29 pm30 pm31 pm32 pm33 pm34 pm35 pm36 pm37 pm38 cd1 cd2 cd3 cd4 cd5 cd6 cd7 cd8 cd9 cd10 cd11 cd12 cd13 cd14 cd15 cd16 cd17 cd18 cd19 cd20 cd21 cd22 cd23 cd24 cd25 cd26 cd27 cd28 cd29 cd30 cd31 cd32 cd33 cd34 cd35 cd36 cd37 cd38 ct1 ct2 ct3 ct4 ct5 ct6 ct7 ct8 ct9 ct10 ct11 ct12 ct13 ct14 ct15 ct16 ct17 ct18 ct19 ct20 ct21 ct22 ct23 ct24 ct25 ct26 ct27 ct28 ct29 ct30 ct31 ct32 ct33 ct34 ct35 ct36 ct37 ct38 : Value} {t_LIMIT t_MOST_CREWS : Tok}
    (aCFamily : PySem.W.nsIn K mainGlobals "Family" = some (some (.ref CFm)))
    (a1 : PySem.W.nsIn K mainGlobals "is_integer" = some (some (.ref f1)))
    (l1 : K.lookup f1 = some ⟨oc1, od1, .func (PySem.W.fnOf "is_integer" "is_integer" (defArgs is_integer_s) (defBody is_integer_s) (defScope is_integer_s) .none kV1 dc1 pm1 an1 cd1 ct1), sl1⟩)
    (c1 : PySem.W.codeIn K cd1 "is_integer" = true)
    (k1 : PySem.W.keepIn K (.ref f1) = true)
    (a2 : PySem.W.nsIn K mainGlobals "is_group" = some (some (.ref f2)))
    (l2 : K.lookup f2 = some ⟨oc2, od2, .func (PySem.W.fnOf "is_group" "is_group" (defArgs is_group_s) (defBody is_group_s) (defScope is_group_s) .none kV2 dc2 pm2 an2 cd2 ct2), sl2⟩)
    (c2 : PySem.W.codeIn K cd2 "is_group" = true)
    (k2 : PySem.W.keepIn K (.ref f2) = true)
    (a3 : PySem.W.nsIn K mainGlobals "is_count" = some (some (.ref f3)))
    (l3 : K.lookup f3 = some ⟨oc3, od3, .func (PySem.W.fnOf "is_count" "is_count" (defArgs is_count_s) (defBody is_count_s) (defScope is_count_s) .none kV3 dc3 pm3 an3 cd3 ct3), sl3⟩)
    (c3 : PySem.W.codeIn K cd3 "is_count" = true)
    (k3 : PySem.W.keepIn K (.ref f3) = true)
    (a4 : PySem.W.nsIn K mainGlobals "is_row" = some (some (.ref f4)))
    (l4 : K.lookup f4 = some ⟨oc4, od4, .func (PySem.W.fnOf "is_row" "is_row" (defArgs is_row_s) (defBody is_row_s) (defScope is_row_s) .none kV4 dc4 pm4 an4 cd4 ct4), sl4⟩)
    (c4 : PySem.W.codeIn K cd4 "is_row" = true)
    (k4 : PySem.W.keepIn K (.ref f4) = true)
    (a5 : PySem.W.nsIn K mainGlobals "_law_bag" = some (some (.ref f5)))
    (l5 : K.lookup f5 = some ⟨oc5, od5, .func (PySem.W.fnOf "_law_bag" "_law_bag" (defArgs l_bag_s) (defBody l_bag_s) (defScope l_bag_s) .none kV5 dc5 pm5 an5 cd5 ct5), sl5⟩)
    (c5 : PySem.W.codeIn K cd5 "_law_bag" = true)
    (k5 : PySem.W.keepIn K (.ref f5) = true)
    (a6 : PySem.W.nsIn K mainGlobals "_law_take" = some (some (.ref f6)))
    (l6 : K.lookup f6 = some ⟨oc6, od6, .func (PySem.W.fnOf "_law_take" "_law_take" (defArgs l_take_s) (defBody l_take_s) (defScope l_take_s) .none kV6 dc6 pm6 an6 cd6 ct6), sl6⟩)
    (c6 : PySem.W.codeIn K cd6 "_law_take" = true)
    (k6 : PySem.W.keepIn K (.ref f6) = true)
    (a7 : PySem.W.nsIn K mainGlobals "_law_one" = some (some (.ref f7)))
    (l7 : K.lookup f7 = some ⟨oc7, od7, .func (PySem.W.fnOf "_law_one" "_law_one" (defArgs l_one_s) (defBody l_one_s) (defScope l_one_s) .none kV7 dc7 pm7 an7 cd7 ct7), sl7⟩)
    (c7 : PySem.W.codeIn K cd7 "_law_one" = true)
    (k7 : PySem.W.keepIn K (.ref f7) = true)
    (a8 : PySem.W.nsIn K mainGlobals "_law_alike" = some (some (.ref f8)))
    (l8 : K.lookup f8 = some ⟨oc8, od8, .func (PySem.W.fnOf "_law_alike" "_law_alike" (defArgs l_alike_s) (defBody l_alike_s) (defScope l_alike_s) .none kV8 dc8 pm8 an8 cd8 ct8), sl8⟩)
    (c8 : PySem.W.codeIn K cd8 "_law_alike" = true)
    (k8 : PySem.W.keepIn K (.ref f8) = true)
    (a9 : PySem.W.nsIn K mainGlobals "_law_some" = some (some (.ref f9)))
    (l9 : K.lookup f9 = some ⟨oc9, od9, .func (PySem.W.fnOf "_law_some" "_law_some" (defArgs l_some_s) (defBody l_some_s) (defScope l_some_s) .none kV9 dc9 pm9 an9 cd9 ct9), sl9⟩)
    (c9 : PySem.W.codeIn K cd9 "_law_some" = true)
    (k9 : PySem.W.keepIn K (.ref f9) = true)
    (a10 : PySem.W.nsIn K mainGlobals "_law_job" = some (some (.ref f10)))
    (l10 : K.lookup f10 = some ⟨oc10, od10, .func (PySem.W.fnOf "_law_job" "_law_job" (defArgs l_job_s) (defBody l_job_s) (defScope l_job_s) .none kV10 dc10 pm10 an10 cd10 ct10), sl10⟩)
    (c10 : PySem.W.codeIn K cd10 "_law_job" = true)
    (k10 : PySem.W.keepIn K (.ref f10) = true)
    (a11 : PySem.W.nsIn K mainGlobals "_law_jobs" = some (some (.ref f11)))
    (l11 : K.lookup f11 = some ⟨oc11, od11, .func (PySem.W.fnOf "_law_jobs" "_law_jobs" (defArgs l_jobs_s) (defBody l_jobs_s) (defScope l_jobs_s) .none kV11 dc11 pm11 an11 cd11 ct11), sl11⟩)
    (c11 : PySem.W.codeIn K cd11 "_law_jobs" = true)
    (k11 : PySem.W.keepIn K (.ref f11) = true)
    (a12 : PySem.W.nsIn K mainGlobals "together" = some (some (.ref f12)))
    (l12 : K.lookup f12 = some ⟨oc12, od12, .func (PySem.W.fnOf "together" "together" (defArgs together_s) (defBody together_s) (defScope together_s) .none kV12 dc12 pm12 an12 cd12 ct12), sl12⟩)
    (c12 : PySem.W.codeIn K cd12 "together" = true)
    (k12 : PySem.W.keepIn K (.ref f12) = true)
    (a13 : PySem.W.nsIn K mainGlobals "apart" = some (some (.ref f13)))
    (l13 : K.lookup f13 = some ⟨oc13, od13, .func (PySem.W.fnOf "apart" "apart" (defArgs apart_s) (defBody apart_s) (defScope apart_s) .none kV13 dc13 pm13 an13 cd13 ct13), sl13⟩)
    (c13 : PySem.W.codeIn K cd13 "apart" = true)
    (k13 : PySem.W.keepIn K (.ref f13) = true)
    (a14 : PySem.W.nsIn K mainGlobals "others" = some (some (.ref f14)))
    (l14 : K.lookup f14 = some ⟨oc14, od14, .func (PySem.W.fnOf "others" "others" (defArgs others_s) (defBody others_s) (defScope others_s) .none kV14 dc14 pm14 an14 cd14 ct14), sl14⟩)
    (c14 : PySem.W.codeIn K cd14 "others" = true)
    (k14 : PySem.W.keepIn K (.ref f14) = true)
    (a15 : PySem.W.nsIn K mainGlobals "in_order" = some (some (.ref f15)))
    (l15 : K.lookup f15 = some ⟨oc15, od15, .func (PySem.W.fnOf "in_order" "in_order" (defArgs in_order_s) (defBody in_order_s) (defScope in_order_s) .none kV15 dc15 pm15 an15 cd15 ct15), sl15⟩)
    (c15 : PySem.W.codeIn K cd15 "in_order" = true)
    (k15 : PySem.W.keepIn K (.ref f15) = true)
    (a16 : PySem.W.nsIn K mainGlobals "parts" = some (some (.ref f16)))
    (l16 : K.lookup f16 = some ⟨oc16, od16, .func (PySem.W.fnOf "parts" "parts" (defArgs parts_s) (defBody parts_s) (defScope parts_s) .none kV16 dc16 pm16 an16 cd16 ct16), sl16⟩)
    (c16 : PySem.W.codeIn K cd16 "parts" = true)
    (k16 : PySem.W.keepIn K (.ref f16) = true)
    (a17 : PySem.W.nsIn K mainGlobals "_law_groups" = some (some (.ref f17)))
    (l17 : K.lookup f17 = some ⟨oc17, od17, .func (PySem.W.fnOf "_law_groups" "_law_groups" (defArgs l_groups_s) (defBody l_groups_s) (defScope l_groups_s) .none kV17 dc17 pm17 an17 cd17 ct17), sl17⟩)
    (c17 : PySem.W.codeIn K cd17 "_law_groups" = true)
    (k17 : PySem.W.keepIn K (.ref f17) = true)
    (a18 : PySem.W.nsIn K mainGlobals "_law_can" = some (some (.ref f18)))
    (l18 : K.lookup f18 = some ⟨oc18, od18, .func (PySem.W.fnOf "_law_can" "_law_can" (defArgs l_can_s) (defBody l_can_s) (defScope l_can_s) .none kV18 dc18 pm18 an18 cd18 ct18), sl18⟩)
    (c18 : PySem.W.codeIn K cd18 "_law_can" = true)
    (k18 : PySem.W.keepIn K (.ref f18) = true)
    (a19 : PySem.W.nsIn K mainGlobals "groups" = some (some (.ref f19)))
    (l19 : K.lookup f19 = some ⟨oc19, od19, .func (PySem.W.fnOf "groups" "groups" (defArgs groups_s) (defBody groups_s) (defScope groups_s) .none kV19 dc19 pm19 an19 cd19 ct19), sl19⟩)
    (c19 : PySem.W.codeIn K cd19 "groups" = true)
    (k19 : PySem.W.keepIn K (.ref f19) = true)
    (a20 : PySem.W.nsIn K mainGlobals "newcomers" = some (some (.ref f20)))
    (l20 : K.lookup f20 = some ⟨oc20, od20, .func (PySem.W.fnOf "newcomers" "newcomers" (defArgs newcomers_s) (defBody newcomers_s) (defScope newcomers_s) .none kV20 dc20 pm20 an20 cd20 ct20), sl20⟩)
    (c20 : PySem.W.codeIn K cd20 "newcomers" = true)
    (k20 : PySem.W.keepIn K (.ref f20) = true)
    (a21 : PySem.W.nsIn K mainGlobals "_distinct" = some (some (.ref f21)))
    (l21 : K.lookup f21 = some ⟨oc21, od21, .func (PySem.W.fnOf "_distinct" "_distinct" (defArgs _distinct_s) (defBody _distinct_s) (defScope _distinct_s) .none kV21 dc21 pm21 an21 cd21 ct21), sl21⟩)
    (c21 : PySem.W.codeIn K cd21 "_distinct" = true)
    (k21 : PySem.W.keepIn K (.ref f21) = true)
    (a22 : PySem.W.nsIn K mainGlobals "_strengths" = some (some (.ref f22)))
    (l22 : K.lookup f22 = some ⟨oc22, od22, .func (PySem.W.fnOf "_strengths" "_strengths" (defArgs _strengths_s) (defBody _strengths_s) (defScope _strengths_s) .none kV22 dc22 pm22 an22 cd22 ct22), sl22⟩)
    (c22 : PySem.W.codeIn K cd22 "_strengths" = true)
    (k22 : PySem.W.keepIn K (.ref f22) = true)
    (a23 : PySem.W.nsIn K mainGlobals "_check_groups" = some (some (.ref f23)))
    (l23 : K.lookup f23 = some ⟨oc23, od23, .func (PySem.W.fnOf "_check_groups" "_check_groups" (defArgs _check_groups_s) (defBody _check_groups_s) (defScope _check_groups_s) .none kV23 dc23 pm23 an23 cd23 ct23), sl23⟩)
    (c23 : PySem.W.codeIn K cd23 "_check_groups" = true)
    (k23 : PySem.W.keepIn K (.ref f23) = true)
    (a24 : PySem.W.nsIn K mainGlobals "_check_exchanges" = some (some (.ref f24)))
    (l24 : K.lookup f24 = some ⟨oc24, od24, .func (PySem.W.fnOf "_check_exchanges" "_check_exchanges" (defArgs _check_exchanges_s) (defBody _check_exchanges_s) (defScope _check_exchanges_s) .none kV24 dc24 pm24 an24 cd24 ct24), sl24⟩)
    (c24 : PySem.W.codeIn K cd24 "_check_exchanges" = true)
    (k24 : PySem.W.keepIn K (.ref f24) = true)
    (a25 : PySem.W.findIn K (.ref CFm) "__init__" = some (some (.ref f25)))
    (i25 : PySem.W.isFn K (.ref f25) = true)
    (l25 : K.lookup f25 = some ⟨oc25, od25, .func (PySem.W.fnOf "__init__" "Family.__init__" (defArgs Family_init_s) (defBody Family_init_s) (defScope Family_init_s) .none kV25 dc25 pm25 an25 cd25 ct25), sl25⟩)
    (c25 : PySem.W.codeIn K cd25 "Family.__init__" = true)
    (k25 : PySem.W.keepIn K (.ref f25) = true)
    (a26 : PySem.W.findIn K (.ref CFm) "strength" = some (some (.ref f26)))
    (i26 : PySem.W.isFn K (.ref f26) = true)
    (l26 : K.lookup f26 = some ⟨oc26, od26, .func (PySem.W.fnOf "strength" "Family.strength" (defArgs Family_strength_s) (defBody Family_strength_s) (defScope Family_strength_s) .none kV26 dc26 pm26 an26 cd26 ct26), sl26⟩)
    (c26 : PySem.W.codeIn K cd26 "Family.strength" = true)
    (k26 : PySem.W.keepIn K (.ref f26) = true)
    (a27 : PySem.W.findIn K (.ref CFm) "__contains__" = some (some (.ref f27)))
    (i27 : PySem.W.isFn K (.ref f27) = true)
    (l27 : K.lookup f27 = some ⟨oc27, od27, .func (PySem.W.fnOf "__contains__" "Family.__contains__" (defArgs Family___contains___s) (defBody Family___contains___s) (defScope Family___contains___s) .none kV27 dc27 pm27 an27 cd27 ct27), sl27⟩)
    (c27 : PySem.W.codeIn K cd27 "Family.__contains__" = true)
    (k27 : PySem.W.keepIn K (.ref f27) = true)
    (a28 : PySem.W.nsIn K mainGlobals "_law_crews" = some (some (.ref f28)))
    (l28 : K.lookup f28 = some ⟨oc28, od28, .func (PySem.W.fnOf "_law_crews" "_law_crews" (defArgs l_crews_s) (defBody l_crews_s) (defScope l_crews_s) .none kV28 dc28 pm28 an28 cd28 ct28), sl28⟩)
    (c28 : PySem.W.codeIn K cd28 "_law_crews" = true)
    (k28 : PySem.W.keepIn K (.ref f28) = true)
    (a29 : PySem.W.nsIn K mainGlobals "_law_ranks" = some (some (.ref f29)))
    (l29 : K.lookup f29 = some ⟨oc29, od29, .func (PySem.W.fnOf "_law_ranks" "_law_ranks" (defArgs l_ranks_s) (defBody l_ranks_s) (defScope l_ranks_s) .none kV29 dc29 pm29 an29 cd29 ct29), sl29⟩)
    (c29 : PySem.W.codeIn K cd29 "_law_ranks" = true)
    (k29 : PySem.W.keepIn K (.ref f29) = true)
    (a30 : PySem.W.nsIn K mainGlobals "_law_vectors" = some (some (.ref f30)))
    (l30 : K.lookup f30 = some ⟨oc30, od30, .func (PySem.W.fnOf "_law_vectors" "_law_vectors" (defArgs l_vectors_s) (defBody l_vectors_s) (defScope l_vectors_s) .none kV30 dc30 pm30 an30 cd30 ct30), sl30⟩)
    (c30 : PySem.W.codeIn K cd30 "_law_vectors" = true)
    (k30 : PySem.W.keepIn K (.ref f30) = true)
    (a31 : PySem.W.nsIn K mainGlobals "_law_left" = some (some (.ref f31)))
    (l31 : K.lookup f31 = some ⟨oc31, od31, .func (PySem.W.fnOf "_law_left" "_law_left" (defArgs l_left_s) (defBody l_left_s) (defScope l_left_s) .none kV31 dc31 pm31 an31 cd31 ct31), sl31⟩)
    (c31 : PySem.W.codeIn K cd31 "_law_left" = true)
    (k31 : PySem.W.keepIn K (.ref f31) = true)
    (a32 : PySem.W.nsIn K mainGlobals "_law_can_rows" = some (some (.ref f32)))
    (l32 : K.lookup f32 = some ⟨oc32, od32, .func (PySem.W.fnOf "_law_can_rows" "_law_can_rows" (defArgs l_can_rows_s) (defBody l_can_rows_s) (defScope l_can_rows_s) .none kV32 dc32 pm32 an32 cd32 ct32), sl32⟩)
    (c32 : PySem.W.codeIn K cd32 "_law_can_rows" = true)
    (k32 : PySem.W.keepIn K (.ref f32) = true)
    (a33 : PySem.W.nsIn K mainGlobals "_law_rest" = some (some (.ref f33)))
    (l33 : K.lookup f33 = some ⟨oc33, od33, .func (PySem.W.fnOf "_law_rest" "_law_rest" (defArgs l_rest_s) (defBody l_rest_s) (defScope l_rest_s) .none kV33 dc33 pm33 an33 cd33 ct33), sl33⟩)
    (c33 : PySem.W.codeIn K cd33 "_law_rest" = true)
    (k33 : PySem.W.keepIn K (.ref f33) = true)
    (a34 : PySem.W.nsIn K mainGlobals "common" = some (some (.ref f34)))
    (l34 : K.lookup f34 = some ⟨oc34, od34, .func (PySem.W.fnOf "common" "common" (defArgs common_s) (defBody common_s) (defScope common_s) .none kV34 dc34 pm34 an34 cd34 ct34), sl34⟩)
    (c34 : PySem.W.codeIn K cd34 "common" = true)
    (k34 : PySem.W.keepIn K (.ref f34) = true)
    (a35 : PySem.W.nsIn K mainGlobals "_law_drawn" = some (some (.ref f35)))
    (l35 : K.lookup f35 = some ⟨oc35, od35, .func (PySem.W.fnOf "_law_drawn" "_law_drawn" (defArgs l_drawn_s) (defBody l_drawn_s) (defScope l_drawn_s) .none kV35 dc35 pm35 an35 cd35 ct35), sl35⟩)
    (c35 : PySem.W.codeIn K cd35 "_law_drawn" = true)
    (k35 : PySem.W.keepIn K (.ref f35) = true)
    (a36 : PySem.W.nsIn K mainGlobals "_law_second" = some (some (.ref f36)))
    (l36 : K.lookup f36 = some ⟨oc36, od36, .func (PySem.W.fnOf "_law_second" "_law_second" (defArgs l_second_s) (defBody l_second_s) (defScope l_second_s) .none kV36 dc36 pm36 an36 cd36 ct36), sl36⟩)
    (c36 : PySem.W.codeIn K cd36 "_law_second" = true)
    (k36 : PySem.W.keepIn K (.ref f36) = true)
    (a37 : PySem.W.nsIn K mainGlobals "_law_due" = some (some (.ref f37)))
    (l37 : K.lookup f37 = some ⟨oc37, od37, .func (PySem.W.fnOf "_law_due" "_law_due" (defArgs l_due_s) (defBody l_due_s) (defScope l_due_s) .none kV37 dc37 pm37 an37 cd37 ct37), sl37⟩)
    (c37 : PySem.W.codeIn K cd37 "_law_due" = true)
    (k37 : PySem.W.keepIn K (.ref f37) = true)
    (a38 : PySem.W.nsIn K mainGlobals "law" = some (some (.ref f38)))
    (l38 : K.lookup f38 = some ⟨oc38, od38, .func (PySem.W.fnOf "law" "law" (defArgs l_law_s) (defBody l_law_s) (defScope l_law_s) .none kV38 dc38 pm38 an38 cd38 ct38), sl38⟩)
    (c38 : PySem.W.codeIn K cd38 "law" = true)
    (k38 : PySem.W.keepIn K (.ref f38) = true)
    (pgFamily : PySem.W.plainGet K CFm Str.empty = true)
    (hdFamily : PySem.W.hasDictIn K CFm = true)
    (poFamily : PySem.W.plainOver K CFm = true)
    (saFamily : PySem.W.findIn K (.ref CFm) "__setattr__" = some (some (.builtin "object.__setattr__")))
    (mkFamily : PySem.W.makesIn K CFm = true)
    (kcFamily : PySem.W.keepIn K (.ref CFm) = true)
    (haFamily : PySem.W.findIn K (.ref CFm) "__class__" = some (some (.builtin "object.__class__")))
    (hnFamily : PySem.W.specialIn K (.builtin "object.__class__") "__get__" = some (some (.builtin "getset_descriptor.__get__")))
    (htkFamily : PySem.W.takesIn K (.builtin "object.__class__") = some true)
    (hmFamily : PySem.W.mroIn K CFm (.type "object") = some true)
    (n_sizeFamily : PySem.W.findIn K (.ref CFm) "size" = some none)
    (n_crewsFamily : PySem.W.findIn K (.ref CFm) "crews" = some none)
    (n_fullFamily : PySem.W.findIn K (.ref CFm) "full" = some none)
    (n__groupsFamily : PySem.W.findIn K (.ref CFm) "_groups" = some none)
    (n__strengthsFamily : PySem.W.findIn K (.ref CFm) "_strengths" = some none)
    (aNLIMIT : PySem.W.nsIn K mainGlobals "LIMIT" = some (some (.int 7 t_LIMIT)))
    (aNMOST_CREWS : PySem.W.nsIn K mainGlobals "MOST_CREWS" = some (some (.int 100 t_MOST_CREWS)))
    (z_iter : PySem.W.nsIn K mainGlobals "iter" = some none)
    (z_len : PySem.W.nsIn K mainGlobals "len" = some none)
    (z_abs : PySem.W.nsIn K mainGlobals "abs" = some none)
    (z_int : PySem.W.nsIn K mainGlobals "int" = some none)
    (z_bool : PySem.W.nsIn K mainGlobals "bool" = some none)
    (z_str : PySem.W.nsIn K mainGlobals "str" = some none)
    (z_list : PySem.W.nsIn K mainGlobals "list" = some none)
    (z_tuple : PySem.W.nsIn K mainGlobals "tuple" = some none)
    (z_set : PySem.W.nsIn K mainGlobals "set" = some none)
    (z_range : PySem.W.nsIn K mainGlobals "range" = some none)
    (z_sorted : PySem.W.nsIn K mainGlobals "sorted" = some none)
    (z_repr : PySem.W.nsIn K mainGlobals "repr" = some none)
    (z_isinstance : PySem.W.nsIn K mainGlobals "isinstance" = some none)
    (z_enumerate : PySem.W.nsIn K mainGlobals "enumerate" = some none)
    (z_zip : PySem.W.nsIn K mainGlobals "zip" = some none)
    (z_any : PySem.W.nsIn K mainGlobals "any" = some none)
    (z_all : PySem.W.nsIn K mainGlobals "all" = some none)
    (z_sum : PySem.W.nsIn K mainGlobals "sum" = some none)
    (z_max : PySem.W.nsIn K mainGlobals "max" = some none)
    (z_min : PySem.W.nsIn K mainGlobals "min" = some none) :
    ∃ fd : FuncData, (∀ (s : Shared) (v : Value), BindsTo s fd ⟨[v], []⟩ [("_law_script", v)]) ∧ ∀ base : Heap, K.In base → base.Ns mainGlobals mg → FnG l.prog w K mg base CX0 7 fa fd ["_law_script"] (spLaw K) := by
  have e := hfa.symm.trans (PySem.W.mg_of X G a38)
  cases e
  have T : Bltn mg := ⟨PySem.W.mg_none_of X G z_len, PySem.W.mg_none_of X G z_abs, PySem.W.mg_none_of X G z_int, PySem.W.mg_none_of X G z_bool, PySem.W.mg_none_of X G z_str, PySem.W.mg_none_of X G z_list, PySem.W.mg_none_of X G z_tuple, PySem.W.mg_none_of X G z_set, PySem.W.mg_none_of X G z_range, PySem.W.mg_none_of X G z_sorted, PySem.W.mg_none_of X G z_repr, PySem.W.mg_none_of X G z_isinstance, PySem.W.mg_none_of X G z_enumerate, PySem.W.mg_none_of X G z_zip, PySem.W.mg_none_of X G z_any, PySem.W.mg_none_of X G z_all, PySem.W.mg_none_of X G z_sum, PySem.W.mg_none_of X G z_max, PySem.W.mg_none_of X G z_min⟩
  have ClFamily : Cls K CFm := ⟨pgFamily, hdFamily, poFamily, saFamily⟩
  have C_Family : ClsF K mg CFm := ⟨ClFamily, n_sizeFamily, n_crewsFamily, n_fullFamily, n__groupsFamily, n__strengthsFamily, PySem.W.mg_of X G aCFamily, ⟨ClFamily, haFamily, hnFamily, htkFamily, hmFamily⟩, by simp [PySem.W.kitOne]⟩
  have N_LIMIT := PySem.W.mg_of X G aNLIMIT
  have N_MOST_CREWS := PySem.W.mg_of X G aNMOST_CREWS
  have is_integer_D : Dfn K mg "is_integer" "is_integer" is_integer_s ["thing"] _ _ := ⟨(fun_mk (st := is_integer_s) l1 c1 k1), ((fun_mk (st := is_integer_s) l1 c1 k1).binds (ps := ["thing"]) fun _ _ _ _ _ _ us hl => match us, hl with | [_], _ => rfl), PySem.W.mg_of X G a1⟩
  have is_group_D : Dfn K mg "is_group" "is_group" is_group_s ["size", "thing"] _ _ := ⟨(fun_mk (st := is_group_s) l2 c2 k2), ((fun_mk (st := is_group_s) l2 c2 k2).binds (ps := ["size", "thing"]) fun _ _ _ _ _ _ us hl => match us, hl with | [_, _], _ => rfl), PySem.W.mg_of X G a2⟩
  have is_count_D : Dfn K mg "is_count" "is_count" is_count_s ["thing", "limit"] _ _ := ⟨(fun_mk (st := is_count_s) l3 c3 k3), ((fun_mk (st := is_count_s) l3 c3 k3).binds (ps := ["thing", "limit"]) fun _ _ _ _ _ _ us hl => match us, hl with | [_, _], _ => rfl), PySem.W.mg_of X G a3⟩
  have is_row_D : Dfn K mg "is_row" "is_row" is_row_s ["thing", "limit"] _ _ := ⟨(fun_mk (st := is_row_s) l4 c4 k4), ((fun_mk (st := is_row_s) l4 c4 k4).binds (ps := ["thing", "limit"]) fun _ _ _ _ _ _ us hl => match us, hl with | [_, _], _ => rfl), PySem.W.mg_of X G a4⟩
  have l_bag_D : Dfn K mg "_law_bag" "_law_bag" l_bag_s ["_law_script"] _ _ := ⟨(fun_mk (st := l_bag_s) l5 c5 k5), ((fun_mk (st := l_bag_s) l5 c5 k5).binds (ps := ["_law_script"]) fun _ _ _ _ _ _ us hl => match us, hl with | [_], _ => rfl), PySem.W.mg_of X G a5⟩
  have l_take_D : Dfn K mg "_law_take" "_law_take" l_take_s ["_law_bag_here", "_law_many"] _ _ := ⟨(fun_mk (st := l_take_s) l6 c6 k6), ((fun_mk (st := l_take_s) l6 c6 k6).binds (ps := ["_law_bag_here", "_law_many"]) fun _ _ _ _ _ _ us hl => match us, hl with | [_, _], _ => rfl), PySem.W.mg_of X G a6⟩
  have l_one_D : Dfn K mg "_law_one" "_law_one" l_one_s ["_law_bag_here", "_law_things"] _ _ := ⟨(fun_mk (st := l_one_s) l7 c7 k7), ((fun_mk (st := l_one_s) l7 c7 k7).binds (ps := ["_law_bag_here", "_law_things"]) fun _ _ _ _ _ _ us hl => match us, hl with | [_, _], _ => rfl), PySem.W.mg_of X G a7⟩
  have l_alike_D : Dfn K mg "_law_alike" "_law_alike" l_alike_s ["_law_found", "_law_due_here"] _ _ := ⟨(fun_mk (st := l_alike_s) l8 c8 k8), ((fun_mk (st := l_alike_s) l8 c8 k8).binds (ps := ["_law_found", "_law_due_here"]) fun _ _ _ _ _ _ us hl => match us, hl with | [_, _], _ => rfl), PySem.W.mg_of X G a8⟩
  have l_some_D : Dfn K mg "_law_some" "_law_some" l_some_s ["_law_bag_here", "_law_things"] _ _ := ⟨(fun_mk (st := l_some_s) l9 c9 k9), ((fun_mk (st := l_some_s) l9 c9 k9).binds (ps := ["_law_bag_here", "_law_things"]) fun _ _ _ _ _ _ us hl => match us, hl with | [_, _], _ => rfl), PySem.W.mg_of X G a9⟩
  have l_job_D : Dfn K mg "_law_job" "_law_job" l_job_s ["_law_bag_here", "_law_size"] _ _ := ⟨(fun_mk (st := l_job_s) l10 c10 k10), ((fun_mk (st := l_job_s) l10 c10 k10).binds (ps := ["_law_bag_here", "_law_size"]) fun _ _ _ _ _ _ us hl => match us, hl with | [_, _], _ => rfl), PySem.W.mg_of X G a10⟩
  have l_jobs_D : Dfn K mg "_law_jobs" "_law_jobs" l_jobs_s ["_law_bag_here", "_law_size", "_law_most"] _ _ := ⟨(fun_mk (st := l_jobs_s) l11 c11 k11), ((fun_mk (st := l_jobs_s) l11 c11 k11).binds (ps := ["_law_bag_here", "_law_size", "_law_most"]) fun _ _ _ _ _ _ us hl => match us, hl with | [_, _, _], _ => rfl), PySem.W.mg_of X G a11⟩
  have together_D : Dfn K mg "together" "together" together_s ["one", "other"] _ _ := ⟨(fun_mk (st := together_s) l12 c12 k12), ((fun_mk (st := together_s) l12 c12 k12).binds (ps := ["one", "other"]) fun _ _ _ _ _ _ us hl => match us, hl with | [_, _], _ => rfl), PySem.W.mg_of X G a12⟩
  have apart_D : Dfn K mg "apart" "apart" apart_s ["one", "other"] _ _ := ⟨(fun_mk (st := apart_s) l13 c13 k13), ((fun_mk (st := apart_s) l13 c13 k13).binds (ps := ["one", "other"]) fun _ _ _ _ _ _ us hl => match us, hl with | [_, _], _ => rfl), PySem.W.mg_of X G a13⟩
  have others_D : Dfn K mg "others" "others" others_s ["size", "group"] _ _ := ⟨(fun_mk (st := others_s) l14 c14 k14), ((fun_mk (st := others_s) l14 c14 k14).binds (ps := ["size", "group"]) fun _ _ _ _ _ _ us hl => match us, hl with | [_, _], _ => rfl), PySem.W.mg_of X G a14⟩
  have in_order_D : Dfn K mg "in_order" "in_order" in_order_s ["rows"] _ _ := ⟨(fun_mk (st := in_order_s) l15 c15 k15), ((fun_mk (st := in_order_s) l15 c15 k15).binds (ps := ["rows"]) fun _ _ _ _ _ _ us hl => match us, hl with | [_], _ => rfl), PySem.W.mg_of X G a15⟩
  have parts_D : Dfn K mg "parts" "parts" parts_s ["group"] _ _ := ⟨(fun_mk (st := parts_s) l16 c16 k16), ((fun_mk (st := parts_s) l16 c16 k16).binds (ps := ["group"]) fun _ _ _ _ _ _ us hl => match us, hl with | [_], _ => rfl), PySem.W.mg_of X G a16⟩
  have l_groups_D : Dfn K mg "_law_groups" "_law_groups" l_groups_s ["_law_size"] _ _ := ⟨(fun_mk (st := l_groups_s) l17 c17 k17), ((fun_mk (st := l_groups_s) l17 c17 k17).binds (ps := ["_law_size"]) fun _ _ _ _ _ _ us hl => match us, hl with | [_], _ => rfl), PySem.W.mg_of X G a17⟩
  have l_can_D : Dfn K mg "_law_can" "_law_can" l_can_s ["_law_size", "_law_jobs_here"] _ _ := ⟨(fun_mk (st := l_can_s) l18 c18 k18), ((fun_mk (st := l_can_s) l18 c18 k18).binds (ps := ["_law_size", "_law_jobs_here"]) fun _ _ _ _ _ _ us hl => match us, hl with | [_, _], _ => rfl), PySem.W.mg_of X G a18⟩
  have groups_D : Dfn K mg "groups" "groups" groups_s ["size"] _ _ := ⟨(fun_mk (st := groups_s) l19 c19 k19), ((fun_mk (st := groups_s) l19 c19 k19).binds (ps := ["size"]) fun _ _ _ _ _ _ us hl => match us, hl with | [_], _ => rfl), PySem.W.mg_of X G a19⟩
  have newcomers_D : Dfn K mg "newcomers" "newcomers" newcomers_s ["size", "known", "crew", "person"] _ _ := ⟨(fun_mk (st := newcomers_s) l20 c20 k20), ((fun_mk (st := newcomers_s) l20 c20 k20).binds (ps := ["size", "known", "crew", "person"]) fun _ _ _ _ _ _ us hl => match us, hl with | [_, _, _, _], _ => rfl), PySem.W.mg_of X G a20⟩
  have _distinct_D : Dfn K mg "_distinct" "_distinct" _distinct_s ["rows"] _ _ := ⟨(fun_mk (st := _distinct_s) l21 c21 k21), ((fun_mk (st := _distinct_s) l21 c21 k21).binds (ps := ["rows"]) fun _ _ _ _ _ _ us hl => match us, hl with | [_], _ => rfl), PySem.W.mg_of X G a21⟩
  have _strengths_D : Dfn K mg "_strengths" "_strengths" _strengths_s ["size", "placed"] _ _ := ⟨(fun_mk (st := _strengths_s) l22 c22 k22), ((fun_mk (st := _strengths_s) l22 c22 k22).binds (ps := ["size", "placed"]) fun _ _ _ _ _ _ us hl => match us, hl with | [_, _], _ => rfl), PySem.W.mg_of X G a22⟩
  have _check_groups_D : Dfn K mg "_check_groups" "_check_groups" _check_groups_s ["size", "crews"] _ _ := ⟨(fun_mk (st := _check_groups_s) l23 c23 k23), ((fun_mk (st := _check_groups_s) l23 c23 k23).binds (ps := ["size", "crews"]) fun _ _ _ _ _ _ us hl => match us, hl with | [_, _], _ => rfl), PySem.W.mg_of X G a23⟩
  have _check_exchanges_D : Dfn K mg "_check_exchanges" "_check_exchanges" _check_exchanges_s ["size", "crews"] _ _ := ⟨(fun_mk (st := _check_exchanges_s) l24 c24 k24), ((fun_mk (st := _check_exchanges_s) l24 c24 k24).binds (ps := ["size", "crews"]) fun _ _ _ _ _ _ us hl => match us, hl with | [_, _], _ => rfl), PySem.W.mg_of X G a24⟩
  have Family_init_D : IniN K CFm "Family.__init__" Family_init_s ["self", "size", "crews"] _ _ := ⟨(fun_mk (st := Family_init_s) l25 c25 k25), ((fun_mk (st := Family_init_s) l25 c25 k25).binds (ps := ["self", "size", "crews"]) fun _ _ _ _ _ _ us hl => match us, hl with | [_, _, _], _ => rfl), ⟨mkFamily, a25, i25, kcFamily⟩⟩
  have Family_strength_D : Mth K CFm "strength" "Family.strength" Family_strength_s ["self", "group"] _ _ := ⟨(fun_mk (st := Family_strength_s) l26 c26 k26), ((fun_mk (st := Family_strength_s) l26 c26 k26).binds (ps := ["self", "group"]) fun _ _ _ _ _ _ us hl => match us, hl with | [_, _], _ => rfl), ⟨a26, i26, k26⟩⟩
  have Family___contains___D : Mth K CFm "__contains__" "Family.__contains__" Family___contains___s ["self", "group"] _ _ := ⟨(fun_mk (st := Family___contains___s) l27 c27 k27), ((fun_mk (st := Family___contains___s) l27 c27 k27).binds (ps := ["self", "group"]) fun _ _ _ _ _ _ us hl => match us, hl with | [_, _], _ => rfl), ⟨a27, i27, k27⟩⟩
  have l_crews_D : Dfn K mg "_law_crews" "_law_crews" l_crews_s ["_law_size", "_law_can_here"] _ _ := ⟨(fun_mk (st := l_crews_s) l28 c28 k28), ((fun_mk (st := l_crews_s) l28 c28 k28).binds (ps := ["_law_size", "_law_can_here"]) fun _ _ _ _ _ _ us hl => match us, hl with | [_, _], _ => rfl), PySem.W.mg_of X G a28⟩
  have l_ranks_D : Dfn K mg "_law_ranks" "_law_ranks" l_ranks_s ["_law_size", "_law_can_here"] _ _ := ⟨(fun_mk (st := l_ranks_s) l29 c29 k29), ((fun_mk (st := l_ranks_s) l29 c29 k29).binds (ps := ["_law_size", "_law_can_here"]) fun _ _ _ _ _ _ us hl => match us, hl with | [_, _], _ => rfl), PySem.W.mg_of X G a29⟩
  have l_vectors_D : Dfn K mg "_law_vectors" "_law_vectors" l_vectors_s ["_law_bag_here", "_law_size"] _ _ := ⟨(fun_mk (st := l_vectors_s) l30 c30 k30), ((fun_mk (st := l_vectors_s) l30 c30 k30).binds (ps := ["_law_bag_here", "_law_size"]) fun _ _ _ _ _ _ us hl => match us, hl with | [_, _], _ => rfl), PySem.W.mg_of X G a30⟩
  have l_left_D : Dfn K mg "_law_left" "_law_left" l_left_s ["_law_base", "_law_prime", "_law_row"] _ _ := ⟨(fun_mk (st := l_left_s) l31 c31 k31), ((fun_mk (st := l_left_s) l31 c31 k31).binds (ps := ["_law_base", "_law_prime", "_law_row"]) fun _ _ _ _ _ _ us hl => match us, hl with | [_, _, _], _ => rfl), PySem.W.mg_of X G a31⟩
  have l_can_rows_D : Dfn K mg "_law_can_rows" "_law_can_rows" l_can_rows_s ["_law_size", "_law_prime", "_law_rows"] _ _ := ⟨(fun_mk (st := l_can_rows_s) l32 c32 k32), ((fun_mk (st := l_can_rows_s) l32 c32 k32).binds (ps := ["_law_size", "_law_prime", "_law_rows"]) fun _ _ _ _ _ _ us hl => match us, hl with | [_, _, _], _ => rfl), PySem.W.mg_of X G a32⟩
  have l_rest_D : Dfn K mg "_law_rest" "_law_rest" l_rest_s ["_law_size", "_law_group"] _ _ := ⟨(fun_mk (st := l_rest_s) l33 c33 k33), ((fun_mk (st := l_rest_s) l33 c33 k33).binds (ps := ["_law_size", "_law_group"]) fun _ _ _ _ _ _ us hl => match us, hl with | [_, _], _ => rfl), PySem.W.mg_of X G a33⟩
  have common_D : Dfn K mg "common" "common" common_s ["one", "other"] _ _ := ⟨(fun_mk (st := common_s) l34 c34 k34), ((fun_mk (st := common_s) l34 c34 k34).binds (ps := ["one", "other"]) fun _ _ _ _ _ _ us hl => match us, hl with | [_, _], _ => rfl), PySem.W.mg_of X G a34⟩
  have l_drawn_D : Dfn K mg "_law_drawn" "_law_drawn" l_drawn_s ["_law_bag_here", "_law_size"] _ _ := ⟨(fun_mk (st := l_drawn_s) l35 c35 k35), ((fun_mk (st := l_drawn_s) l35 c35 k35).binds (ps := ["_law_bag_here", "_law_size"]) fun _ _ _ _ _ _ us hl => match us, hl with | [_, _], _ => rfl), PySem.W.mg_of X G a35⟩
  have l_second_D : Dfn K mg "_law_second" "_law_second" l_second_s ["_law_bag_here", "_law_size", "_law_table"] _ _ := ⟨(fun_mk (st := l_second_s) l36 c36 k36), ((fun_mk (st := l_second_s) l36 c36 k36).binds (ps := ["_law_bag_here", "_law_size", "_law_table"]) fun _ _ _ _ _ _ us hl => match us, hl with | [_, _, _], _ => rfl), PySem.W.mg_of X G a36⟩
  have l_due_D : Dfn K mg "_law_due" "_law_due" l_due_s ["_law_size", "_law_tables", "_law_ranks_here"] _ _ := ⟨(fun_mk (st := l_due_s) l37 c37 k37), ((fun_mk (st := l_due_s) l37 c37 k37).binds (ps := ["_law_size", "_law_tables", "_law_ranks_here"]) fun _ _ _ _ _ _ us hl => match us, hl with | [_, _, _], _ => rfl), PySem.W.mg_of X G a37⟩
  have l_law_D : Dfn K mg "law" "law" l_law_s ["_law_script"] _ _ := ⟨(fun_mk (st := l_law_s) l38 c38 k38), ((fun_mk (st := l_law_s) l38 c38 k38).binds (ps := ["_law_script"]) fun _ _ _ _ _ _ us hl => match us, hl with | [_], _ => rfl), PySem.W.mg_of X G a38⟩
  have T_iter := PySem.W.mg_none_of X G z_iter
  refine ⟨PySem.W.fnOf "law" "law" (defArgs l_law_s) (defBody l_law_s) (defScope l_law_s) .none kV38 dc38 pm38 an38 cd38 ct38, fun s v => .of_eq rfl, fun base _ _ => ?_⟩
  have is_integer_H := fun g : Gd => is_integer_ok (P := l.prog) (w := w) (base := base) (g := g) is_integer_D T
  have is_group_H := fun g : Gd => is_group_ok (P := l.prog) (w := w) (base := base) (g := g) is_group_D T is_integer_D (is_integer_H g)
  have is_count_H := fun g : Gd => is_count_ok (P := l.prog) (w := w) (base := base) (g := g) is_count_D T is_integer_D (is_integer_H g)
  have is_row_H := fun g : Gd => is_row_ok (P := l.prog) (w := w) (base := base) (g := g) is_row_D T
  have l_bag_H := fun (sa : Addr) (ns : List Int) (tr : Prop) => l_bag_ok (P := l.prog) (w := w) (base := base) (sa := sa) (ns := ns) (tr := tr) l_bag_D T
  have l_take_H : ∀ (b c : Addr) (cs : List Int), (∀ n ∈ cs, 0 ≤ n) → FnOk l.prog w K mg base CX0 1 _ _ ["_law_bag_here", "_law_many"] (spOf (Bg b c cs) 2 (spTake b)) := fun b c cs hcs => ok_take hcs l_take_D.F T.len T.int
  have l_one_H := fun (b c : Addr) (cs : List Int) (hcs : ∀ n ∈ cs, 0 ≤ n) => l_one_ok (P := l.prog) (w := w) (base := base) (b := b) (c := c) (cs := cs) l_one_D T l_take_D (l_take_H b c cs hcs)
  have l_alike_H := fun g : Gd => l_alike_ok (P := l.prog) (w := w) (base := base) (g := g) l_alike_D T
  have l_some_H := fun (b c : Addr) (cs : List Int) (hcs : ∀ n ∈ cs, 0 ≤ n) => l_some_ok (P := l.prog) (w := w) (base := base) (b := b) (c := c) (cs := cs) l_some_D T l_take_D (l_take_H b c cs hcs)
  have l_job_H := fun (b c : Addr) (cs : List Int) (hcs : ∀ n ∈ cs, 0 ≤ n) => l_job_ok (P := l.prog) (w := w) (base := base) (b := b) (c := c) (cs := cs) l_job_D T l_some_D (l_some_H b c cs hcs) l_take_D (l_take_H b c cs hcs)
  have l_jobs_H := fun (b c : Addr) (cs : List Int) (hcs : ∀ n ∈ cs, 0 ≤ n) => l_jobs_ok (P := l.prog) (w := w) (base := base) (b := b) (c := c) (cs := cs) l_jobs_D T l_job_D (l_job_H b c cs hcs) l_one_D (l_one_H b c cs hcs) l_take_D (l_take_H b c cs hcs)
  have together_H := fun g : Gd => together_ok (P := l.prog) (w := w) (base := base) (g := g) together_D T
  have apart_H := fun g : Gd => apart_ok (P := l.prog) (w := w) (base := base) (g := g) apart_D T
  have others_H := fun g : Gd => others_ok (P := l.prog) (w := w) (base := base) (g := g) others_D T apart_D (apart_H g)
  have in_order_H := fun g : Gd => in_order_ok (P := l.prog) (w := w) (base := base) (g := g) in_order_D T
  have parts_H := fun g : Gd => parts_ok (P := l.prog) (w := w) (base := base) (g := g) parts_D T in_order_D (in_order_H g)
  have l_groups_H := fun g : Gd => l_groups_ok (P := l.prog) (w := w) (base := base) (g := g) l_groups_D T
  have l_can_H := fun g : Gd => l_can_ok (P := l.prog) (w := w) (base := base) (g := g) l_can_D T l_groups_D (l_groups_H g)
  have groups_H := fun g : Gd => groups_ok (P := l.prog) (w := w) (base := base) (g := g) groups_D T parts_D (parts_H g)
  have newcomers_H := fun g : Gd => newcomers_ok (P := l.prog) (w := w) (base := base) (g := g) newcomers_D T apart_D (apart_H g) others_D (others_H g) together_D (together_H g)
  have _distinct_H := fun g : Gd => _distinct_ok (P := l.prog) (w := w) (base := base) (g := g) _distinct_D T in_order_D (in_order_H g)
  have _strengths_H := fun g : Gd => _strengths_ok (P := l.prog) (w := w) (base := base) (g := g) _strengths_D T groups_D (groups_H g)
  have _check_groups_H := fun g : Gd => _check_groups_ok (P := l.prog) (w := w) (base := base) (g := g) _check_groups_D T is_group_D (is_group_H g)
  have _check_exchanges_H := fun g : Gd => _check_exchanges_ok (P := l.prog) (w := w) (base := base) (g := g) _check_exchanges_D T apart_D (apart_H g) newcomers_D (newcomers_H g)
  have Family_init_H := fun g : Gd => Family_init_ok (P := l.prog) (w := w) (base := base) (g := g) Family_init_D T C_Family N_LIMIT N_MOST_CREWS _check_exchanges_D _check_exchanges_H _check_groups_D _check_groups_H _distinct_D _distinct_H _strengths_D _strengths_H is_count_D is_count_H is_row_D is_row_H parts_D parts_H
  have Family_strength_H := fun g : Gd => Family_strength_ok (P := l.prog) (w := w) (base := base) (g := g) Family_strength_D T C_Family
  have Family___contains___H := fun g : Gd => Family___contains___ok (P := l.prog) (w := w) (base := base) (g := g) Family___contains___D T C_Family is_group_D (is_group_H g)
  have l_crews_H := fun g : Gd => l_crews_ok (P := l.prog) (w := w) (base := base) (g := g) l_crews_D T l_groups_D (l_groups_H g)
  have l_ranks_H := fun g : Gd => l_ranks_ok (P := l.prog) (w := w) (base := base) (g := g) l_ranks_D T l_groups_D (l_groups_H g)
  have l_vectors_H := fun (b c : Addr) (cs : List Int) (hcs : ∀ n ∈ cs, 0 ≤ n) => l_vectors_ok (P := l.prog) (w := w) (base := base) (b := b) (c := c) (cs := cs) l_vectors_D T l_one_D (l_one_H b c cs hcs) l_take_D (l_take_H b c cs hcs)
  have l_left_H := fun g : Gd => l_left_ok (P := l.prog) (w := w) (base := base) (g := g) l_left_D T
  have l_can_rows_H := fun g : Gd => l_can_rows_ok (P := l.prog) (w := w) (base := base) (g := g) l_can_rows_D T l_groups_D (l_groups_H g) l_left_D (l_left_H g)
  have l_rest_H := fun g : Gd => l_rest_ok (P := l.prog) (w := w) (base := base) (g := g) l_rest_D T
  have common_H := fun g : Gd => common_ok (P := l.prog) (w := w) (base := base) (g := g) common_D T C_Family Family___contains___D (Family___contains___H g) Family_strength_D (Family_strength_H g) groups_D (groups_H g) others_D (others_H g)
  have l_drawn_H := fun (b c : Addr) (cs : List Int) (hcs : ∀ n ∈ cs, 0 ≤ n) => l_drawn_ok (P := l.prog) (w := w) (base := base) (b := b) (c := c) (cs := cs) l_drawn_D T l_can_D (l_can_H (Bg b c cs)) l_can_rows_D (l_can_rows_H (Bg b c cs)) l_jobs_D (l_jobs_H b c cs hcs) l_take_D (l_take_H b c cs hcs) l_vectors_D (l_vectors_H b c cs hcs)
  have l_second_H := fun (b c : Addr) (cs : List Int) (hcs : ∀ n ∈ cs, 0 ≤ n) => l_second_ok (P := l.prog) (w := w) (base := base) (b := b) (c := c) (cs := cs) l_second_D T l_crews_D (l_crews_H (Bg b c cs)) l_drawn_D (l_drawn_H b c cs hcs) l_groups_D (l_groups_H (Bg b c cs)) l_rest_D (l_rest_H (Bg b c cs)) l_take_D (l_take_H b c cs hcs)
  have l_due_H := fun g : Gd => l_due_ok (P := l.prog) (w := w) (base := base) (g := g) l_due_D T l_groups_D (l_groups_H g) l_rest_D (l_rest_H g)
  exact l_law_ok l_law_D T C_Family Family_init_D (fun b c cs _ => Family_init_H (Bg b c cs)) l_alike_D (fun b c cs _ => l_alike_H (Bg b c cs)) l_crews_D (fun b c cs _ => l_crews_H (Bg b c cs)) l_drawn_D l_drawn_H l_due_D (fun b c cs _ => l_due_H (Bg b c cs)) l_groups_D (fun b c cs _ => l_groups_H (Bg b c cs)) l_one_D l_one_H l_ranks_D (fun b c cs _ => l_ranks_H (Bg b c cs)) l_rest_D (fun b c cs _ => l_rest_H (Bg b c cs)) l_second_D l_second_H common_D (fun b c cs _ => common_H (Bg b c cs)) l_bag_D l_bag_H
end K68
open PySem PySem.W PyProof.Rows in
set_option maxRecDepth 100000 in
set_option maxHeartbeats 0 in
theorem PySem.Challenge.cw_crewlists_k68_groups_common_to_two_famil_holds : PySem.Challenge.rw_crewlists_k68_groups_common_to_two_famil.Holds := by
  w_on; o_law; k_head; (case hw => w_witness2)
  k_fill
  refine DW.walkG (l := PySem.Challenge.rw_crewlists_k68_groups_common_to_two_famil) (n := 63) (k := 7) (x := "_law_script") (sp := fun w => K68.spLaw _) rfl (by decide) rfl ⟨rfl, by decide, by decide⟩ (fun w h Y => PySem.W.kIn_of Y) ?F (fun _ _ a ns hl _ hS => ⟨a, ns, rfl, hS, fun _ => rfl⟩)
  case F =>
    intro w mg fa h KX G hmg
    refine' K68.all_mk KX G hmg ?aCFamily ?a1 ?l1 ?c1 ?k1 ?a2 ?l2 ?c2 ?k2 ?a3 ?l3 ?c3 ?k3 ?a4 ?l4 ?c4 ?k4 ?a5 ?l5 ?c5 ?k5 ?a6 ?l6 ?c6 ?k6 ?a7 ?l7 ?c7 ?k7 ?a8 ?l8 ?c8 ?k8 ?a9 ?l9 ?c9 ?k9 ?a10 ?l10 ?c10 ?k10 ?a11 ?l11 ?c11 ?k11 ?a12 ?l12 ?c12 ?k12 ?a13 ?l13 ?c13 ?k13 ?a14 ?l14 ?c14 ?k14 ?a15 ?l15 ?c15 ?k15 ?a16 ?l16 ?c16 ?k16 ?a17 ?l17 ?c17 ?k17 ?a18 ?l18 ?c18 ?k18 ?a19 ?l19 ?c19 ?k19 ?a20 ?l20 ?c20 ?k20 ?a21 ?l21 ?c21 ?k21 ?a22 ?l22 ?c22 ?k22 ?a23 ?l23 ?c23 ?k23 ?a24 ?l24 ?c24 ?k24 ?a25 ?i25 ?l25 ?c25 ?k25 ?a26 ?i26 ?l26 ?c26 ?k26 ?a27 ?i27 ?l27 ?c27 ?k27 ?a28 ?l28 ?c28 ?k28 ?a29 ?l29 ?c29 ?k29 ?a30 ?l30 ?c30 ?k30 ?a31 ?l31 ?c31 ?k31 ?a32 ?l32 ?c32 ?k32 ?a33 ?l33 ?c33 ?k33 ?a34 ?l34 ?c34 ?k34 ?a35 ?l35 ?c35 ?k35 ?a36 ?l36 ?c36 ?k36 ?a37 ?l37 ?c37 ?k37 ?a38 ?l38 ?c38 ?k38 ?pgFamily ?hdFamily ?poFamily ?saFamily ?mkFamily ?kcFamily ?haFamily ?hnFamily ?htkFamily ?hmFamily ?n_sizeFamily ?n_crewsFamily ?n_fullFamily ?n__groupsFamily ?n__strengthsFamily ?aNLIMIT ?aNMOST_CREWS ?z_iter ?z_len ?z_abs ?z_int ?z_bool ?z_str ?z_list ?z_tuple ?z_set ?z_range ?z_sorted ?z_repr ?z_isinstance ?z_enumerate ?z_zip ?z_any ?z_all ?z_sum ?z_max ?z_min
    (case aCFamily => k_is)
    (case a1 => k_is)
    (case l1 => k_is)
    (case c1 => k_is)
    (case k1 => k_is)
    (case a2 => k_is)
    (case l2 => k_is)
    (case c2 => k_is)
    (case k2 => k_is)
    (case a3 => k_is)
    (case l3 => k_is)
    (case c3 => k_is)
    (case k3 => k_is)
    (case a4 => k_is)
    (case l4 => k_is)
    (case c4 => k_is)
    (case k4 => k_is)
    (case a5 => k_is)
    (case l5 => k_is)
    (case c5 => k_is)
    (case k5 => k_is)
    (case a6 => k_is)
    (case l6 => k_is)
    (case c6 => k_is)
    (case k6 => k_is)
    (case a7 => k_is)
    (case l7 => k_is)
    (case c7 => k_is)
    (case k7 => k_is)
    (case a8 => k_is)
    (case l8 => k_is)
    (case c8 => k_is)
    (case k8 => k_is)
    (case a9 => k_is)
    (case l9 => k_is)
    (case c9 => k_is)
    (case k9 => k_is)
    (case a10 => k_is)
    (case l10 => k_is)
    (case c10 => k_is)
    (case k10 => k_is)
    (case a11 => k_is)
    (case l11 => k_is)
    (case c11 => k_is)
    (case k11 => k_is)
    (case a12 => k_is)
    (case l12 => k_is)
    (case c12 => k_is)
    (case k12 => k_is)
    (case a13 => k_is)
    (case l13 => k_is)
    (case c13 => k_is)
    (case k13 => k_is)
    (case a14 => k_is)
    (case l14 => k_is)
    (case c14 => k_is)
    (case k14 => k_is)
    (case a15 => k_is)
    (case l15 => k_is)
    (case c15 => k_is)
    (case k15 => k_is)
    (case a16 => k_is)
    (case l16 => k_is)
    (case c16 => k_is)
    (case k16 => k_is)
    (case a17 => k_is)
    (case l17 => k_is)
    (case c17 => k_is)
    (case k17 => k_is)
    (case a18 => k_is)
    (case l18 => k_is)
    (case c18 => k_is)
    (case k18 => k_is)
    (case a19 => k_is)
    (case l19 => k_is)
    (case c19 => k_is)
    (case k19 => k_is)
    (case a20 => k_is)
    (case l20 => k_is)
    (case c20 => k_is)
    (case k20 => k_is)
    (case a21 => k_is)
    (case l21 => k_is)
    (case c21 => k_is)
    (case k21 => k_is)
    (case a22 => k_is)
    (case l22 => k_is)
    (case c22 => k_is)
    (case k22 => k_is)
    (case a23 => k_is)
    (case l23 => k_is)
    (case c23 => k_is)
    (case k23 => k_is)
    (case a24 => k_is)
    (case l24 => k_is)
    (case c24 => k_is)
    (case k24 => k_is)
    (case a25 => k_is)
    (case i25 => k_is)
    (case l25 => k_is)
    (case c25 => k_is)
    (case k25 => k_is)
    (case a26 => k_is)
    (case i26 => k_is)
    (case l26 => k_is)
    (case c26 => k_is)
    (case k26 => k_is)
    (case a27 => k_is)
    (case i27 => k_is)
    (case l27 => k_is)
    (case c27 => k_is)
    (case k27 => k_is)
    (case a28 => k_is)
    (case l28 => k_is)
    (case c28 => k_is)
    (case k28 => k_is)
    (case a29 => k_is)
    (case l29 => k_is)
    (case c29 => k_is)
    (case k29 => k_is)
    (case a30 => k_is)
    (case l30 => k_is)
    (case c30 => k_is)
    (case k30 => k_is)
    (case a31 => k_is)
    (case l31 => k_is)
    (case c31 => k_is)
    (case k31 => k_is)
    (case a32 => k_is)
    (case l32 => k_is)
    (case c32 => k_is)
    (case k32 => k_is)
    (case a33 => k_is)
    (case l33 => k_is)
    (case c33 => k_is)
    (case k33 => k_is)
    (case a34 => k_is)
    (case l34 => k_is)
    (case c34 => k_is)
    (case k34 => k_is)
    (case a35 => k_is)
    (case l35 => k_is)
    (case c35 => k_is)
    (case k35 => k_is)
    (case a36 => k_is)
    (case l36 => k_is)
    (case c36 => k_is)
    (case k36 => k_is)
    (case a37 => k_is)
    (case l37 => k_is)
    (case c37 => k_is)
    (case k37 => k_is)
    (case a38 => k_is)
    (case l38 => k_is)
    (case c38 => k_is)
    (case k38 => k_is)
    (case pgFamily => k_is)
    (case hdFamily => k_is)
    (case poFamily => k_is)
    (case saFamily => k_is)
    (case mkFamily => k_is)
    (case kcFamily => k_is)
    (case haFamily => k_is)
    (case hnFamily => k_is)
    (case htkFamily => k_is)
    (case hmFamily => k_is)
    (case n_sizeFamily => k_is)
    (case n_crewsFamily => k_is)
    (case n_fullFamily => k_is)
    (case n__groupsFamily => k_is)
    (case n__strengthsFamily => k_is)
    (case aNLIMIT => k_is)
    (case aNMOST_CREWS => k_is)
    (case z_iter => k_is)
    (case z_len => k_is)
    (case z_abs => k_is)
    (case z_int => k_is)
    (case z_bool => k_is)
    (case z_str => k_is)
    (case z_list => k_is)
    (case z_tuple => k_is)
    (case z_set => k_is)
    (case z_range => k_is)
    (case z_sorted => k_is)
    (case z_repr => k_is)
    (case z_isinstance => k_is)
    (case z_enumerate => k_is)
    (case z_zip => k_is)
    (case z_any => k_is)
    (case z_all => k_is)
    (case z_sum => k_is)
    (case z_max => k_is)
    (case z_min => k_is)
