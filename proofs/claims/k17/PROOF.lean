import PyProof.Rows.All
import Wide.All
import OpenK.AllK
import Wide.FinOn
import HandS.ForMost
import HandS.ForExc
import HandS.Conv
import HandS.TupAny
import HandS.IsInst
import HandS.Strs
import HandS.SetFor
import HandS.SortInts
import HandS.Zip
import HandS.Flow
import HandS.More
import HandS.OwnEq
import KE.GoesEnum
import HandS.ExcOwn
import HandS.WordsExc
import HandS.ExcIs
import HandS.TupMul
import PyProof.EqAt
import PyProof.EqKinds
import PyProof.TupleCall
import Open.SpecLaws
import KE.OsGo
import HandS.ForSpec
import PySem.Challenge.RW_crewlists_k17_jobs_joined
set_option Elab.async false
set_option linter.all false
set_option maxRecDepth 100000
set_option maxHeartbeats 4000000
/-! Defs that are called where no repr is under way (the guards are known to be none), and repr itself. -/
namespace DW
open PySem PySem.Spec PyProof.Rows L2

structure FnG (P : Program) (w : World) (K : PySem.W.Frag) (mg : Str → Option Value) (base : Heap) (CX : CXT) (k : Nat) (f : Addr) (fd : FuncData) (ps : List Str) (sp : Sp) : Prop where
  ln : ∀ vs H Q E, sp vs H Q E → vs.length = ps.length
  go : ∀ (A : Around) (fr : List Env) (s : Shared) (H : Hp) (as : Args) (us : List Value) (vs : List V) (Q : VK) (E : XK),
    A.guards = some [] → Room k A → Env0 P w K mg base A fr s H → BindsTo s fd as (ps.zip us) → Vals vs us → sp vs H Q E →
    codeAny (model P w) A (.call (.ref f) as) (CR CX fr P w H s Q E) s
section
variable {P : Program} {w : World} {K : PySem.W.Frag} {mg : Str → Option Value} {base : Heap} {CX : CXT} {k : Nat} {f : Addr} {fd : FuncData} {ps : List Str} {sp : Sp}
theorem FnG.of (F : FnOk P w K mg base CX k f fd ps sp) : FnG P w K mg base CX k f fd ps sp :=
  ⟨F.len, fun A fr s H as us vs Q E _ r e b v h => F.run A fr s H as us vs Q E r e b v h⟩
theorem FnG.mono {j : Nat} (F : FnG P w K mg base CX j f fd ps sp) (h : j ≤ k) : FnG P w K mg base CX k f fd ps sp :=
  ⟨F.ln, fun A fr s H as us vs Q E g r e b v q => F.go A fr s H as us vs Q E g (r.mono h) e b v q⟩
end
section
variable {X : Cx} {CX : CXT} {k : Nat} {f C : Addr} {fd : FuncData} {ps : List Str} {sp : Sp} {dvs : List V} {ds : List Value} {E : XK} {x m : Str} {p pos apos : Pos} {e o : Expr} {es : List Expr} {ta : TE} {t : TA}
theorem goG {pins : List (Addr × Obj)} {σ : L2.St} {H : Hp} {s : Shared} {Q : VK} {us : List Value} {vs : List V}
    (F : FnG X.prog X.w X.K X.mg X.base CX k f fd ps sp) (gd : X.A.guards = some []) (hr : Room k X.A) (hb : Binds X.K fd ps ds) (hd : Vals dvs ds)
    (hx : Passes CX X E) (I : Inv X pins σ H s) (r : Vals vs us) (h : sp (vs ++ dvs) H Q E) :
    wpAny (model X.prog X.w) X.A (call (.ref f) us) (EP X pins σ Q) X.xe s := by
  have both : Vals (vs ++ dvs) (us ++ ds) := Vals.append r hd
  have many : (us ++ ds).length = ps.length := (Vals.length both).symm.trans (F.ln _ _ _ _ h)
  have run := F.go X.A X.stack s H ⟨us, []⟩ (us ++ ds) (vs ++ dvs) Q E gd hr (Inv.env0 I) (hb s us (Inv.kIn I) many) both h
  refine wpAny_call (codeAny_mono run ?_)
  intro res s2 hres
  match res, hres with
  | .error ex, hres => exact hx pins σ H s ex s2 I hres
  | .ok (.ret u), hres => exact Inv.after I hres
  | .ok .next, hres => exact hres.elim
  | .ok .brk, hres => exact hres.elim
  | .ok .cont, hres => exact hres.elim
theorem pe_callG (F : FnG X.prog X.w X.K X.mg X.base CX k f fd ps sp) (gd : X.A.guards = some []) (hr : Room k X.A)
    (hg : Gl X x) (hm : X.mg x = some (.ref f)) (hk : PySem.W.keepIn X.K (.ref f) = true)
    (hb : Binds X.K fd ps ds) (hd : Vals dvs ds) (hx : Passes CX X E) (ha : PA X (e :: es) t)
    (hdb : (x == ("__debug__" : Str)) = false := by decide) (he : starEach (e :: es) X.env = (false, eval e X.env) :: starEach es X.env := by rfl)
    (hpl : (backTo pos (starEach es X.env)).any (·.1) = false := by rfl) : PE X (.Call (.Name x p) (e :: es) [] pos) (tCall sp dvs E t) := by
  constructor
  intro pins s σ H Q I h
  apply wpAny_Call_Name_kw
  apply ld_glob I hg hm _ hdb
  apply PySem.W.callWith_K (h₀ := X.base) I.ok.mod.kin hk _ he hpl
  refine thn (ha.run pos pins s σ H _ I h) ?_
  rintro us s1 ⟨vs, H1, I1, r, q⟩
  exact ⟨I1.kIn, goG F gd hr hb hd hx I1 r q⟩
theorem pe_methG {pl : Sem Bool} (he : PE X o ta) (c : Cls X.K C) (hm : Meth X.K C m f) (F : FnG X.prog X.w X.K X.mg X.base CX k f fd ps sp) (gd : X.A.guards = some [])
    (hr : Room k X.A) (hb : Binds X.K fd ps ds) (hd : Vals dvs ds) (hx : Passes CX X E) (ha : PA X (e :: es) t)
    (hst : starEach (e :: es) X.env = (false, eval e X.env) :: starEach es X.env := by rfl)
    (hpl : (backTo pos (starEach es X.env)).any (·.1) = false := by rfl)
    (ht : eval (.Call (.Attribute o m apos) (e :: es) [] pos) X.env = ((eval o X.env) >>= fun ov => (standAt apos.atName) >>= fun _ =>
      (holding [ov] (getMethod ov m pl)) >>= fun p => callWith pos p.1 p.2 (backTo pos (starEach (e :: es) X.env)) (backToKw pos (keywordEach [] X.env))) := by rfl) :
    PE X (.Call (.Attribute o m apos) (e :: es) [] pos) (tMeth C m sp dvs E ta t) := by
  constructor
  intro pins s σ H Q I h
  apply PySem.W.methodCall_KW (pl := pl) _ ht
  refine thn (he.run pins s σ H _ I h) ?_
  rintro u s1 ⟨x, H1, I1, rx, a, dx, fs, rfl, ea, l, q⟩
  cases rx
  apply getmeth_ok I1 ea c hm l
  apply PySem.W.callWith_K (first := [.ref a]) (h₀ := X.base) I.ok.mod.kin hm.kp _ hst hpl
  refine thn (ha.run pos pins s1 σ H1 _ I1 q) ?_
  rintro us s2 ⟨vs, H2, I2, r, q2⟩
  exact ⟨I2.kIn, goG (us := .ref a :: us) (vs := .ref a :: vs) F gd hr hb hd hx I2 (.cons rfl r) q2⟩
end
/-- a def by its body, where the guards are known -/
theorem Fun.okGX {CX : CXT} {P : Program} {w : World} {K : PySem.W.Frag} {mg : Str → Option Value} {base : Heap} {x qual : Str} {st : Stmt} {f : Addr} {fd : FuncData} {N ps : List Str} {k : Nat} {sp : Sp}
    (F : Fun K x qual st f fd) (S : FnScope N ps (defScope st)) (ln : ∀ vs H Q E, sp vs H Q E → vs.length = ps.length)
    (body : ∀ (cdv : Value) (A : Around) (fr : List Env) (s : Shared) (H : Hp) (vs : List V) (Q : VK) (E : XK), A.guards = some [] →
      Room k (A.deeper (envOfC qual (defScope st) s.heap.objs.size f cdv)) → sp vs H Q E →
      ∃ t, PSs (cxOf CX P w K mg base N qual (defScope st) f cdv A fr s H E) (defBody st) t ∧ t { nx := fun _ H' => Q .non H', rt := Q } (start N vs) H) :
    FnG P w K mg base CX (k + 1) f fd ps sp := by
  obtain ⟨oc, od, kV, doc, pm, an, cdv, ct, osl, rfl, lk, hcd⟩ := F.ex
  refine ⟨ln, ?_⟩
  intro A fr s H as us vs Q E gd hr e0 hb rv hsp
  have KX : K.In s.heap := e0.mod.kin.keeps (fun b o e => (e0.bs b o e).1)
  have many := ln _ _ _ _ hsp
  have kinds : ∀ y ∈ ps.zip us, (defScope st).names.lookup y.1 = some .local ∨
      ((defScope st).names.lookup y.1 = some .cell ∧ ((cellsFrom (s.heap.objs.size + 1) (defScope st).names []).lookup y.1).isSome = true) := by
    rintro ⟨n, v⟩ hy
    cases S.par n (List.of_mem_zip hy).1 with
    | inl q => exact Or.inl q
    | inr q => exact Or.inr ⟨q, PySem.W.cellsFrom_some _ _ _ (Or.inl q)⟩
  apply codeAny_call_function hr.depth (KX _ _ lk) rfl S.co S.gen rfl (PySem.W.codeRec_of KX hcd) (hb _ _ _ _ _)
  refine wpAny_newFunctionEnv_cells S.kind kinds ?_
  intro env he s1 ic
  subst he
  refine ⟨(e0.mod.nolimit.keeps fun b o e => (e0.bs b o e).1).keeps ic.toInCall.keep, codeAny_func ?_⟩
  obtain ⟨t, ht, hq⟩ := body cdv A fr s H vs Q E gd (Room.deeper hr _) hsp
  have I0 := inv_start (CX := CX) (E := E) S hr.hd e0 many rv ic
  refine wpAny_mono (ht.run [] s1 _ H _ I0 hq) ?_ (fun e s2 hs => hs)
  intro fl s2 hs
  match fl, hs with
  | .ret u, ⟨v, σ', H', J, ru, q⟩ => exact ⟨v, H', J.os, J.bare, J.base, J.hok, ru, q⟩
  | .next, ⟨σ', H', J, q⟩ => exact ⟨.non, H', J.os, J.bare, J.base, J.hok, rfl, q⟩
  | .brk, ⟨_, _, _, q⟩ => exact q.elim
  | .cont, ⟨_, _, _, q⟩ => exact q.elim
theorem Fun.okG {P : Program} {w : World} {K : PySem.W.Frag} {mg : Str → Option Value} {base : Heap} {x qual : Str} {st : Stmt} {f : Addr} {fd : FuncData} {N ps : List Str} {k : Nat} {sp : Sp}
    (F : Fun K x qual st f fd) (S : FnScope N ps (defScope st)) (ln : ∀ vs H Q E, sp vs H Q E → vs.length = ps.length)
    (body : ∀ (cdv : Value) (A : Around) (fr : List Env) (s : Shared) (H : Hp) (vs : List V) (Q : VK) (E : XK), A.guards = some [] →
      Room k (A.deeper (envOfC qual (defScope st) s.heap.objs.size f cdv)) → sp vs H Q E →
      ∃ t, PSs (cxOf CX0 P w K mg base N qual (defScope st) f cdv A fr s H E).nox (defBody st) t ∧ t { nx := fun _ H' => Q .non H', rt := Q } (start N vs) H) :
    FnG P w K mg base CX0 (k + 1) f fd ps sp :=
  Fun.okGX F S ln fun cdv A fr s H vs Q E gd hr h => let ⟨t, ht, q⟩ := body cdv A fr s H vs Q E gd hr h; ⟨t, ht.nox, q⟩
/-- the law's call -/
theorem callG {P : Program} {w : World} {K : PySem.W.Frag} {mg mb : Str → Option Value} {k : Nat} {fa a : Addr} {fd : FuncData} {x : Str} {sp : Sp} {s₁ : Shared} {vs : List Value} {ns : List Int}
    (KX : K.In s₁.heap) (hns : s₁.heap.Ns mainGlobals mg) (hb : s₁.heap.Ns builtinsNs mb) (hbb : ∀ x : Str, x ≠ "__name__" → mb x = bootBuiltins x) (hlim : s₁.heap.NoLimit) (hg : s₁.gens = #[])
    (ha : s₁.heap.get? a = some { cls := .type "list", data := .seq vs.toArray }) (hi : IntsAre vs ns) (hl : ns.length ≤ sizeLine) (hr : Room k callerA)
    (F : ∀ base : Heap, K.In base → base.Ns mainGlobals mg → FnG P w K mg base CX0 k fa fd [x] sp) (hbind : ∀ (s : Shared) (u : Value), BindsTo s fd ⟨[u], []⟩ [(x, u)])
    (hsp : ∀ H : Hp, Only H → SqL K H a (ns.map V.int) → sp [.ref a] H (fun v _ => v = .bl true) fun _ _ _ => False) :
    codeAny (model P w) callerA (.call (.ref fa) ⟨[.ref a], []⟩) (fun r s' => r = .ok (.ret (.bool true)) ∧ OldK s₁.heap s'.heap ∧ s'.os = s₁.os ∧ AllBare s'.gens) s₁ := by
  have gen : ∀ H : Hp, Only H → SqL K H a (ns.map V.int) → HOk P w H s₁.heap → (∀ b, H b ≠ none → b = a ∧ K.lookup a = none) →
      codeAny (model P w) callerA (.call (.ref fa) ⟨[.ref a], []⟩) (fun r s' => r = .ok (.ret (.bool true)) ∧ OldK s₁.heap s'.heap ∧ s'.os = s₁.os ∧ AllBare s'.gens) s₁ := by
    intro H hO hS hok only
    have untr : ∀ {b : Addr}, b ≠ a → H b = none := fun {b} n => by
      cases z : H b with
      | none => rfl
      | some o => exact absurd (only b (by rw [z]; nofun)).1 n
    have dictNs : ∀ {b : Addr} {m : Str → Option Value}, s₁.heap.Ns b m → (hidT s₁.heap H).Ns b m := by
      rintro b m ⟨o, es, ep, e, d, r⟩
      refine ⟨o, es, ep, hidT_get e (untr ?_), d, r⟩
      rintro rfl
      rw [ha] at e
      cases e
      cases d
    have kin : K.In (hidT s₁.heap H) := fun b o e => hidT_get (KX b o e) (by
      cases z : H b with
      | none => rfl
      | some u =>
        obtain ⟨rfl, no⟩ := only b (by rw [z]; nofun)
        rw [no] at e; cases e)
    have e0 : Env0 P w K mg (hidT s₁.heap H) callerA [] s₁ H :=
      { frames := rfl, mod := { kin := kin, glob := dictNs hns, blt := ⟨mb, dictNs hb, hbb⟩, nolimit := hlim.elim fun mc h => ⟨mc, dictNs h.1, h.2⟩ },
        bs := fun b o e => of_hidT e, bsz := Nat.le_of_eq (hidT_size _ _), funs := trivial, frf := fun b hb => by simp [frs] at hb, hok := hok, bare := .of_eq hg }
    have run := (F _ kin (dictNs hns)).go callerA [] s₁ H ⟨[.ref a], []⟩ [.ref a] [.ref a] _ _ rfl hr e0 (hbind s₁ (.ref a)) (.cons rfl .nil) (hsp H hO hS)
    refine codeAny_mono run ?_
    intro r s2 h
    match r, h with
    | .ok (.ret u), ⟨v, H', os, bare, un, hok2, ru, q⟩ =>
      cases (show v = .bl true from q)
      cases (show u = Value.bool true from ru)
      refine ⟨rfl, OldK.of_keep ?_, os, bare⟩
      intro b o e
      rcases hO b with z | ⟨ob, xs, z⟩
      · exact un.keep b o e z (by simp [frs]) (by simp)
      · have p1 := (hok b _ z).1
        have p2 := (hok2 b _ (un.frzs b ob _ z)).1
        rw [e] at p1; cases p1; exact p2
    | .ok .next, h => exact h.elim
    | .ok .brk, h => exact h.elim
    | .ok .cont, h => exact h.elim
    | .error ex, h => exact h.elim
  have rv := vals_ints hi
  by_cases hk : ∃ o, K.lookup a = some o
  · obtain ⟨o, hk⟩ := hk
    have e := KX a o hk
    rw [ha] at e
    cases e
    refine gen (fun _ => none) (fun _ => Or.inl rfl) (Or.inr ⟨_, vs.toArray, _, hk, rfl, rfl, rfl, ?_, ?_⟩) (fun b u z => nomatch z) (fun b z => absurd rfl z)
    · rw [List.size_toArray, hi.length]; exact hl
    · simpa using rv
  · have hk' : K.lookup a = none := by
      cases z : K.lookup a with
      | none => rfl
      | some o => exact absurd ⟨o, z⟩ hk
    let ob : Obj := { cls := .type "list", data := .seq vs.toArray }
    refine gen (fun b => if b = a then some (.frz ob (.lst (ns.map V.int))) else none) ?_ (Or.inl (Or.inr ⟨ob, if_pos rfl⟩)) ?_ ?_
    · intro b
      by_cases e : b = a
      · exact Or.inr ⟨ob, _, if_pos e⟩
      · exact Or.inl (if_neg e)
    · intro b u z
      by_cases e : b = a
      · subst e
        have z2 : some (HO.frz ob (.lst (ns.map V.int))) = some u := (if_pos rfl).symm.trans z
        cases z2
        exact ⟨ha, by rw [List.length_map]; exact hl, vs, _, rv, ha⟩
      · have z2 : none = some u := (if_neg e).symm.trans z
        cases z2
    · intro b z
      by_cases e : b = a
      · exact ⟨e, hk'⟩
      · exact absurd (if_neg e) z
theorem walkG {l : PySem.W.OpenLaw} {n k : Nat} {q : Program} {loose : List Str} {XP : (Str → Option Value) → Heap → Prop} {YP : World → Heap → Prop} {d : DefRec} {K : Params → PySem.W.Frag} {sp : World → Sp} {x : Str}
    (hn : l.most = some n) (hn2 : n ≤ sizeLine) (hdf : d.params.defaults = []) (hr : Room k callerA) (hY : ∀ (w : World) (h : Heap), YP w h → (K w.params).In h)
    (F : ∀ (w : World) (mg : Str → Option Value) (fa : Addr) (h : Heap), (K w.params).In h → h.Ns mainGlobals mg → mg d.name = some (.ref fa) →
      ∃ fd : FuncData, (∀ (s : Shared) (u : Value), BindsTo s fd ⟨[u], []⟩ [(x, u)]) ∧
        ∀ base : Heap, (K w.params).In base → base.Ns mainGlobals mg → FnG l.prog w (K w.params) mg base CX0 k fa fd [x] (sp w))
    (hsp : ∀ (w : World) (H : Hp) (a : Addr) (ns : List Int), ns.length ≤ n → Only H → SqL (K w.params) H a (ns.map V.int) → sp w [.ref a] H (fun v _ => v = .bl true) fun _ _ _ => False) :
    PySem.W.WalkO q loose XP YP l.row.toRowW d [] (fun f vs => PySem.call f vs) := by
  apply Att.attach_call hn hdf
  intro w s₀ s₁ mg mb fa o pm cd doc a vs ns G Y ho hd hcd hmg hobj hints hlen hg
  have KX := hY w _ Y
  obtain ⟨fd, hb, hF⟩ := F w mg fa _ KX G.T.g hmg
  exact callG KX G.T.g G.T.b G.T.builtins G.T.nolimit hg hobj hints (Nat.le_trans hlen hn2) hr hF hb fun H hO hS => hsp w H a ns hlen hO hS
end DW
/-! DW: weakest preconditions over plain data, over the hand layer. -/
namespace DW
open PySem PySem.Spec PyProof.Rows L2

/-! ### data -/
inductive D where
  | non | bl (b : Bool) | int (i : Int) | str (x : Str)
  | tup (xs : List D) | lst (xs : List D)
  | dK (kvs : List (Key × D)) | dT (kvs : List (List Key × D))
  | obj (C : Addr) (fs : List (Str × D))
  | rf (a : Addr) | ty (n : String)

mutual
inductive DR (Av : Addr → Prop) (H : Hp) : V → D → Prop
  | non : DR Av H .non .non
  | bl (b : Bool) : DR Av H (.bl b) (.bl b)
  | int (i : Int) : DR Av H (.int i) (.int i)
  | str (x : Str) : DR Av H (.str x) (.str x)
  | ty (n : String) : DR Av H (.ty n) (.ty n)
  | rf (a : Addr) : DR Av H (.ref a) (.rf a)
  | tup {a : Addr} {vs : List V} {ds : List D} : ¬ Av a → H a = some (.tup vs) → DRs Av H vs ds → DR Av H (.ref a) (.tup ds)
  | lst {a : Addr} {vs : List V} {ds : List D} : ¬ Av a → H a = some (.lst vs) → DRs Av H vs ds → DR Av H (.ref a) (.lst ds)
  | dK {a : Addr} {kvs : List (Key × V)} {ds : List (Key × D)} : ¬ Av a → H a = some (.dK kvs) → DRk Av H kvs ds → DR Av H (.ref a) (.dK ds)
  | dT {a : Addr} {kvs : List (List Key × V)} {ds : List (List Key × D)} : ¬ Av a → H a = some (.dT kvs) → DRt Av H kvs ds → DR Av H (.ref a) (.dT ds)
  | obj {a C dx : Addr} {fv : List (Str × V)} {fs : List (Str × D)} : ¬ Av a → H a = some (.ins C dx fv) → DRf Av H fv fs → DR Av H (.ref a) (.obj C fs)
inductive DRs (Av : Addr → Prop) (H : Hp) : List V → List D → Prop
  | nil : DRs Av H [] []
  | cons {v : V} {vs : List V} {d : D} {ds : List D} : DR Av H v d → DRs Av H vs ds → DRs Av H (v :: vs) (d :: ds)
inductive DRk (Av : Addr → Prop) (H : Hp) : List (Key × V) → List (Key × D) → Prop
  | nil : DRk Av H [] []
  | cons {k : Key} {v : V} {d : D} {vs : List (Key × V)} {ds : List (Key × D)} : DR Av H v d → DRk Av H vs ds → DRk Av H ((k, v) :: vs) ((k, d) :: ds)
inductive DRt (Av : Addr → Prop) (H : Hp) : List (List Key × V) → List (List Key × D) → Prop
  | nil : DRt Av H [] []
  | cons {k : List Key} {v : V} {d : D} {vs : List (List Key × V)} {ds : List (List Key × D)} : DR Av H v d → DRt Av H vs ds → DRt Av H ((k, v) :: vs) ((k, d) :: ds)
inductive DRf (Av : Addr → Prop) (H : Hp) : List (Str × V) → List (Str × D) → Prop
  | nil : DRf Av H [] []
  | cons {f : Str} {v : V} {d : D} {vs : List (Str × V)} {ds : List (Str × D)} : DR Av H v d → DRf Av H vs ds → DRf Av H ((f, v) :: vs) ((f, d) :: ds)
end

/-- what carries a relation from one heap (and what is avoided there) to another -/
structure Mv (Av Av' : Addr → Prop) (H H' : Hp) : Prop where
  go : ∀ a o, ¬ Av a → H a = some o → ¬ Av' a ∧ H' a = some o

mutual
theorem DR.mv {Av Av' : Addr → Prop} {H H' : Hp} (m : Mv Av Av' H H') : ∀ {v : V} {d : D}, DR Av H v d → DR Av' H' v d
  | _, _, .non => .non
  | _, _, .bl b => .bl b
  | _, _, .int i => .int i
  | _, _, .str x => .str x
  | _, _, .ty n => .ty n
  | _, _, .rf a => .rf a
  | _, _, .tup n h r => .tup (m.go _ _ n h).1 (m.go _ _ n h).2 (DRs.mv m r)
  | _, _, .lst n h r => .lst (m.go _ _ n h).1 (m.go _ _ n h).2 (DRs.mv m r)
  | _, _, .dK n h r => .dK (m.go _ _ n h).1 (m.go _ _ n h).2 (DRk.mv m r)
  | _, _, .dT n h r => .dT (m.go _ _ n h).1 (m.go _ _ n h).2 (DRt.mv m r)
  | _, _, .obj n h r => .obj (m.go _ _ n h).1 (m.go _ _ n h).2 (DRf.mv m r)
theorem DRs.mv {Av Av' : Addr → Prop} {H H' : Hp} (m : Mv Av Av' H H') : ∀ {v : List V} {d : List D}, DRs Av H v d → DRs Av' H' v d
  | _, _, .nil => .nil
  | _, _, .cons h r => .cons (DR.mv m h) (DRs.mv m r)
theorem DRk.mv {Av Av' : Addr → Prop} {H H' : Hp} (m : Mv Av Av' H H') : ∀ {v : List (Key × V)} {d : List (Key × D)}, DRk Av H v d → DRk Av' H' v d
  | _, _, .nil => .nil
  | _, _, .cons h r => .cons (DR.mv m h) (DRk.mv m r)
theorem DRt.mv {Av Av' : Addr → Prop} {H H' : Hp} (m : Mv Av Av' H H') : ∀ {v : List (List Key × V)} {d : List (List Key × D)}, DRt Av H v d → DRt Av' H' v d
  | _, _, .nil => .nil
  | _, _, .cons h r => .cons (DR.mv m h) (DRt.mv m r)
theorem DRf.mv {Av Av' : Addr → Prop} {H H' : Hp} (m : Mv Av Av' H H') : ∀ {v : List (Str × V)} {d : List (Str × D)}, DRf Av H v d → DRf Av' H' v d
  | _, _, .nil => .nil
  | _, _, .cons h r => .cons (DR.mv m h) (DRf.mv m r)
end
theorem DRs.length {Av : Addr → Prop} {H : Hp} : ∀ {vs : List V} {ds : List D}, DRs Av H vs ds → vs.length = ds.length
  | _, _, .nil => rfl
  | _, _, .cons _ r => by simp [r.length]
theorem DRs.get {Av : Addr → Prop} {H : Hp} : ∀ {vs : List V} {ds : List D} {i : Nat} {d : D}, DRs Av H vs ds → ds[i]? = some d → ∃ v, vs[i]? = some v ∧ DR Av H v d
  | _, _, i, d, .nil, e => by simp at e
  | _, _, 0, d, .cons h r, e => by simp at e; subst e; exact ⟨_, by simp, h⟩
  | _, _, i + 1, d, .cons h r, e => by
    obtain ⟨v, e1, h1⟩ := r.get (i := i) (d := d) (by simpa using e)
    exact ⟨v, by simpa using e1, h1⟩
theorem DRs.app {Av : Addr → Prop} {H : Hp} : ∀ {vs ws : List V} {ds es : List D}, DRs Av H vs ds → DRs Av H ws es → DRs Av H (vs ++ ws) (ds ++ es)
  | _, _, _, _, .nil, s => s
  | _, _, _, _, .cons h r, s => .cons h (r.app s)
theorem DRs.take {Av : Addr → Prop} {H : Hp} : ∀ {vs : List V} {ds : List D} (n : Nat), DRs Av H vs ds → DRs Av H (vs.take n) (ds.take n)
  | _, _, 0, _ => .nil
  | _, _, _ + 1, .nil => .nil
  | _, _, n + 1, .cons h r => .cons h (r.take n)
theorem DRs.drop {Av : Addr → Prop} {H : Hp} : ∀ {vs : List V} {ds : List D} (n : Nat), DRs Av H vs ds → DRs Av H (vs.drop n) (ds.drop n)
  | _, _, 0, r => r
  | _, _, _ + 1, .nil => .nil
  | _, _, n + 1, .cons _ r => r.drop n
theorem DRs.set {Av : Addr → Prop} {H : Hp} {v : V} {d : D} (h : DR Av H v d) : ∀ {vs : List V} {ds : List D} (n : Nat), DRs Av H vs ds → DRs Av H (vs.set n v) (ds.set n d)
  | _, _, _, .nil => .nil
  | _, _, 0, .cons _ r => .cons h r
  | _, _, n + 1, .cons q r => .cons q (r.set h n)
theorem DRs.rev {Av : Addr → Prop} {H : Hp} : ∀ {vs : List V} {ds : List D}, DRs Av H vs ds → DRs Av H vs.reverse ds.reverse
  | _, _, .nil => .nil
  | _, _, .cons h r => by rw [List.reverse_cons, List.reverse_cons]; exact r.rev.app (.cons h .nil)
theorem DRs.rep {Av : Addr → Prop} {H : Hp} {vs : List V} {ds : List D} (h : DRs Av H vs ds) : ∀ k : Nat, DRs Av H (List.replicate k vs).flatten (List.replicate k ds).flatten
  | 0 => .nil
  | k + 1 => by rw [List.replicate_succ, List.replicate_succ, List.flatten_cons, List.flatten_cons]; exact h.app (h.rep k)
theorem DRs.erase {Av : Addr → Prop} {H : Hp} : ∀ {vs : List V} {ds : List D} (n : Nat), DRs Av H vs ds → DRs Av H (vs.eraseIdx n) (ds.eraseIdx n)
  | _, _, _, .nil => .nil
  | _, _, 0, .cons _ r => r
  | _, _, n + 1, .cons h r => .cons h (r.erase n)

/-! ### what may change -/
structure Gd where
  W : Addr → Prop
  T : Addr → Prop
  G : Hp → Prop
  wt : ∀ a, W a → T a
  st : ∀ H H' : Hp, (∀ a, T a → H' a = H a) → G H → G H'
  tr : ∀ H, G H → ∀ a, T a → H a ≠ none
def Kp (g : Gd) (H H' : Hp) : Prop := (∀ a o, H a = some o → ¬ g.W a → H' a = some o) ∧ g.G H'
theorem Kp.refl {g : Gd} {H : Hp} (h : g.G H) : Kp g H H := ⟨fun _ _ e _ => e, h⟩
theorem Kp.trans {g : Gd} {H H1 H2 : Hp} (a : Kp g H H1) (b : Kp g H1 H2) : Kp g H H2 := ⟨fun x o e n => b.1 x o (a.1 x o e n) n, b.2⟩
theorem Kp.free {g : Gd} {H H1 : Hp} (a : Kp g H H1) (hg : g.G H) {p : Addr} (h : H1 p = none) : H p = none := by
  cases e : H p with
  | none => rfl
  | some o =>
    by_cases hw : g.W p
    · exact absurd h (g.tr H1 a.2 p (g.wt p hw))
    · rw [a.1 p o e hw] at h; cases h
theorem Kp.new {g : Gd} {H : Hp} {p : Addr} {o : HO} (hg : g.G H) (h : H p = none) : Kp g H (upd H p o) := by
  have hp : ∀ a, g.T a → a ≠ p := fun a ha e => g.tr H hg a ha (by rw [e]; exact h)
  refine ⟨fun a u e _ => ?_, g.st H _ (fun a ha => upd_ne (hp a ha)) hg⟩
  rw [upd_ne (ne_of_none e h)]; exact e

/-- of an activation: what it must leave alone -/
structure FrOk (g : Gd) (Av : Addr → Prop) (H0 : Hp) : Prop where
  ta : ∀ a, g.T a → Av a
  tr : ∀ a, Av a → H0 a ≠ none
theorem Mv.kp {g : Gd} {Av : Addr → Prop} {H H' : Hp} (ta : ∀ a, g.T a → Av a) (k : Kp g H H') : Mv Av Av H H' := ⟨fun a o n e => ⟨n, k.1 a o e fun w => n (ta a (g.wt a w))⟩⟩
/-- the result of an expression; fr: a list that nobody else has -/
structure Res (Av : Addr → Prop) (H : Hp) (v : V) (fr : Bool) (d : D) (H' : Hp) : Prop where
  dr : DR Av H' v d
  new : fr = true → ∃ p vs ds, v = .ref p ∧ d = .lst ds ∧ H p = none ∧ H' p = some (.lst vs) ∧ DRs (fun a => Av a ∨ a = p) H' vs ds
theorem Res.old {Av : Addr → Prop} {H H' : Hp} {v : V} {d : D} (h : DR Av H' v d) : Res Av H v false d H' := ⟨h, fun e => nomatch e⟩

/-! ### the slots -/
/-- what a slot may own: a list or a dict -/
inductive Ct where
  | lst (ds : List D) | dK (kvs : List (Key × D)) | dT (kvs : List (List Key × D))
def Ct.d : Ct → D | .lst ds => .lst ds | .dK k => .dK k | .dT k => .dT k
def CR (Av : Addr → Prop) (H : Hp) : Ct → HO → Prop
  | .lst ds, u => ∃ vs, u = .lst vs ∧ DRs Av H vs ds
  | .dK ds, u => ∃ vs, u = .dK vs ∧ DRk Av H vs ds
  | .dT ds, u => ∃ vs, u = .dT vs ∧ DRt Av H vs ds
theorem CR.mv {Av Av' : Addr → Prop} {H H' : Hp} (m : Mv Av Av' H H') {c : Ct} {u : HO} (h : CR Av H c u) : CR Av' H' c u := by
  cases c with
  | lst ds => obtain ⟨vs, e, r⟩ := h; exact ⟨vs, e, r.mv m⟩
  | dK ds => obtain ⟨vs, e, r⟩ := h; exact ⟨vs, e, DRk.mv m r⟩
  | dT ds => obtain ⟨vs, e, r⟩ := h; exact ⟨vs, e, DRt.mv m r⟩
theorem CR.dr {Av Av' : Addr → Prop} {H : Hp} {c : Ct} {u : HO} {p : Addr} (h : CR Av' H c u) (n : ¬ Av p) (e : H p = some u) (s : ∀ a, Av a → Av' a) : DR Av H (.ref p) c.d := by
  have m : Mv Av' Av H H := ⟨fun a o n e => ⟨fun z => n (s a z), e⟩⟩
  cases c with
  | lst ds => obtain ⟨vs, rfl, r⟩ := h; exact .lst n e (r.mv m)
  | dK ds => obtain ⟨vs, rfl, r⟩ := h; exact .dK n e (DRk.mv m r)
  | dT ds => obtain ⟨vs, rfl, r⟩ := h; exact .dT n e (DRt.mv m r)
/-- lists and dicts -/
def Mt : HO → Prop | .lst _ => True | .dK _ => True | .dT _ => True | _ => False
theorem CR.mt {Av : Addr → Prop} {H : Hp} {c : Ct} {u : HO} (h : CR Av H c u) : Mt u := by
  cases c with
  | lst ds => obtain ⟨vs, rfl, r⟩ := h; trivial
  | dK ds => obtain ⟨vs, rfl, r⟩ := h; trivial
  | dT ds => obtain ⟨vs, rfl, r⟩ := h; trivial
@[simp] def D.isC : D → Bool | .lst _ => true | .dK _ => true | .dT _ => true | _ => false
theorem Ct.isC (c : Ct) : c.d.isC = true := by cases c <;> rfl
inductive Sl where
  | un | val (d : D) | ow (c : Ct)
abbrev Sl.own (ds : List D) : Sl := .ow (.lst ds)
abbrev Sx := List Sl
/-- what values leave alone: the callers' Av, what is being made (B), the lists and dicts of the slots' own -/
def Avo (Av B : Addr → Prop) (o : Nat → Addr) (st : Sx) (a : Addr) : Prop := (Av a ∨ B a) ∨ ∃ (i : Nat) (c : Ct), st[i]? = some (Sl.ow c) ∧ o i = a
structure Rel (g : Gd) (Av B : Addr → Prop) (gh : V → D → Prop) (H0 : Hp) (o : Nat → Addr) (σ : L2.St) (st : Sx) (H : Hp) : Prop where
  len : σ.length = st.length
  kp : Kp g H0 H
  val : ∀ (i : Nat) (d : D), st[i]? = some (.val d) → ∃ v, σ[i]? = some (some v) ∧ DR (Avo Av B o st) H v d
  ow : ∀ (i : Nat) (c : Ct), st[i]? = some (.ow c) → σ[i]? = some (some (.ref (o i))) ∧ H0 (o i) = none ∧ ¬ B (o i) ∧ ∃ u, H (o i) = some u ∧ CR (Avo Av B o st) H c u
  inj : ∀ (i j : Nat) (c e : Ct), st[i]? = some (.ow c) → st[j]? = some (.ow e) → o i = o j → i = j
  bt : ∀ a, B a → H a ≠ none ∧ ¬ g.T a
  gho : ∀ v d, gh v d → DR (Avo Av B o st) H v d
section
variable {g : Gd} {Av B : Addr → Prop} {gh : V → D → Prop} {H0 H H1 : Hp} {o : Nat → Addr} {σ : L2.St} {st : Sx}
theorem Rel.own (R : Rel g Av B gh H0 o σ st H) (i : Nat) (ds : List D) (h : st[i]? = some (.own ds)) : σ[i]? = some (some (.ref (o i))) ∧ H0 (o i) = none ∧ ¬ B (o i) ∧ ∃ vs, H (o i) = some (.lst vs) ∧ DRs (Avo Av B o st) H vs ds := by
  obtain ⟨a, b, c, u, e, vs, rfl, r⟩ := R.ow i _ h
  exact ⟨a, b, c, vs, e, r⟩
theorem Kp.tracked (F : g.G H1) (k : Kp g H H1) {a : Addr} (h : H a ≠ none) : H1 a ≠ none := by
  intro e
  cases z : H a with
  | none => exact h z
  | some u =>
    by_cases w : g.W a
    · exact g.tr H1 F a (g.wt a w) e
    · rw [k.1 a u z w] at e; cases e
theorem Rel.tracked (F : FrOk g Av H0) (R : Rel g Av B gh H0 o σ st H) {a : Addr} (h : Avo Av B o st a) : H a ≠ none := by
  rcases h with (h | h) | ⟨i, c, h1, h2⟩
  · exact Kp.tracked R.kp.2 R.kp (F.tr a h)
  · exact (R.bt a h).1
  · obtain ⟨_, _, _, vs, e, _⟩ := R.ow i c h1
    rw [h2] at e; rw [e]; simp
theorem Avo.ta (F : FrOk g Av H0) {a : Addr} (h : g.T a) : Avo Av B o st a := .inl (.inl (F.ta a h))
theorem Rel.ownT (F : FrOk g Av H0) (R : Rel g Av B gh H0 o σ st H) {i : Nat} {c : Ct} (h : st[i]? = some (.ow c)) : ¬ g.T (o i) := fun z => by
  exact F.tr _ (F.ta _ z) (R.ow i c h).2.1
theorem Mv.avo (F : FrOk g Av H0) (k : Kp g H H1) : Mv (Avo Av B o st) (Avo Av B o st) H H1 := Mv.kp (fun a h => Avo.ta F h) k
theorem Rel.mono (F : FrOk g Av H0) (R : Rel g Av B gh H0 o σ st H) (k : Kp g H H1) : Rel g Av B gh H0 o σ st H1 := by
  have m : Mv (Avo Av B o st) (Avo Av B o st) H H1 := Mv.avo F k
  refine ⟨R.len, R.kp.trans k, fun i d e => ?_, fun i ds e => ?_, R.inj, fun a h => ⟨Kp.tracked k.2 k (R.bt a h).1, (R.bt a h).2⟩, fun v d h => (R.gho v d h).mv m⟩
  · obtain ⟨v, e1, r⟩ := R.val i d e
    exact ⟨v, e1, r.mv m⟩
  · obtain ⟨e1, e2, nb, vs, e3, r⟩ := R.ow i ds e
    exact ⟨e1, e2, nb, vs, k.1 _ _ e3 fun w => R.ownT F e (g.wt _ w), r.mv m⟩
end

/-! ### the judgements -/
abbrev WP := Sx → (Bool → D → Prop) → Prop
/-- a value to be read: its items are apart from what the frame owns -/
def Rdv (Avs : Addr → Prop) (Av : Addr → Prop) (H : Hp) (v : V) (d : D) : Prop := DR Avs H v d ∨ ∃ p u c, v = .ref p ∧ d = Ct.d c ∧ ¬ Av p ∧ H p = some u ∧ CR Avs H c u
/-- an expression: its value is apart from what the frame owns -/
def WE (g : Gd) (X : Cx) (e : Expr) (w : WP) : Prop := ∃ t, PE X e t ∧ ∀ Av B gh H0 o σ st H Q Qd, g.G H0 → FrOk g Av H0 → Rel g Av B gh H0 o σ st H → w st Qd →
  (∀ fr d v H', Kp g H H' → Res (Avo Av B o st) H v fr d H' → Qd fr d → Q v H') → t σ H Q
def WR (g : Gd) (X : Cx) (e : Expr) (w : WP) : Prop := ∃ t, PE X e t ∧ ∀ Av B gh H0 o σ st H Q Qd, g.G H0 → FrOk g Av H0 → Rel g Av B gh H0 o σ st H → w st Qd →
  (∀ fr d v H', Kp g H H' → Rdv (Avo Av B o st) (fun a => Av a ∨ B a) H' v d → Qd fr d → Q v H') → t σ H Q
theorem WE.rd {g : Gd} {X : Cx} {e : Expr} {w : WP} (h : WE g X e w) : WR g X e w := by
  obtain ⟨t, p, q⟩ := h
  exact ⟨t, p, fun Av B gh H0 o σ st H Q Qd hg F R hw hk => q Av B gh H0 o σ st H Q Qd hg F R hw fun fr d v H' k r hd => hk fr d v H' k (.inl r.dr) hd⟩
theorem Rdv.mono {g : Gd} {Avs Av : Addr → Prop} {H H1 : Hp} {v : V} {d : D} (t1 : ∀ a, g.T a → Avs a) (t2 : ∀ a, g.T a → Av a) (k : Kp g H H1) (h : Rdv Avs Av H v d) : Rdv Avs Av H1 v d := by
  rcases h with h | ⟨p, vs, ds, e1, e2, e3, e4, r⟩
  · exact .inl (h.mv (Mv.kp t1 k))
  · exact .inr ⟨p, vs, ds, e1, e2, e3, k.1 _ _ e4 fun w => e3 (t2 _ (g.wt _ w)), r.mv (Mv.kp t1 k)⟩
/-- a list that is read -/
theorem Rdv.lst {Av Av' : Addr → Prop} {H : Hp} {v : V} {ds : List D} (h : Rdv Av Av' H v (.lst ds)) : ∃ p vs, v = .ref p ∧ H p = some (.lst vs) ∧ DRs Av H vs ds := by
  rcases h with h | ⟨p, u, c, e1, e2, _, e3, r⟩
  · cases h with
    | lst n e r => exact ⟨_, _, rfl, e, r⟩
  · cases c with
    | lst ds' => cases e2; obtain ⟨vs, rfl, r⟩ := r; exact ⟨p, vs, e1, e3, r⟩
    | dK _ => cases e2
    | dT _ => cases e2
/-- a dict that is read -/
theorem Rdv.dT {Av Av' : Addr → Prop} {H : Hp} {v : V} {ds : List (List Key × D)} (h : Rdv Av Av' H v (.dT ds)) : ∃ p vs, v = .ref p ∧ H p = some (.dT vs) ∧ DRt Av H vs ds := by
  rcases h with h | ⟨p, u, c, e1, e2, _, e3, r⟩
  · cases h with
    | dT n e r => exact ⟨_, _, rfl, e, r⟩
  · cases c with
    | dT ds' => cases e2; obtain ⟨vs, rfl, r⟩ := r; exact ⟨p, vs, e1, e3, r⟩
    | dK _ => cases e2
    | lst _ => cases e2
theorem Rdv.dK {Av Av' : Addr → Prop} {H : Hp} {v : V} {ds : List (Key × D)} (h : Rdv Av Av' H v (.dK ds)) : ∃ p vs, v = .ref p ∧ H p = some (.dK vs) ∧ DRk Av H vs ds := by
  rcases h with h | ⟨p, u, c, e1, e2, _, e3, r⟩
  · cases h with
    | dK n e r => exact ⟨_, _, rfl, e, r⟩
  · cases c with
    | dK ds' => cases e2; obtain ⟨vs, rfl, r⟩ := r; exact ⟨p, vs, e1, e3, r⟩
    | dT _ => cases e2
    | lst _ => cases e2
theorem Rdv.dr {Av Av' : Addr → Prop} {H : Hp} {v : V} {d : D} (h : Rdv Av Av' H v d) (n : d.isC = false) : DR Av H v d := by
  rcases h with h | ⟨p, u, c, e1, e2, _⟩
  · exact h
  · rw [e2, c.isC] at n; cases n
theorem Rdv.tup {Av Av' : Addr → Prop} {H : Hp} {v : V} {ds : List D} (h : Rdv Av Av' H v (.tup ds)) : ∃ p vs, v = .ref p ∧ H p = some (.tup vs) ∧ DRs Av H vs ds ∧ DR Av H v (.tup ds) := by
  have h := h.dr (by simp)
  cases h with
  | tup n e r => exact ⟨_, _, rfl, e, r, .tup n e r⟩
theorem Rdv.int {Av Av' : Addr → Prop} {H : Hp} {v : V} {i : Int} (h : Rdv Av Av' H v (.int i)) : v = .int i := by
  cases h.dr (by simp); rfl
theorem Rdv.bl {Av Av' : Addr → Prop} {H : Hp} {v : V} {i : Bool} (h : Rdv Av Av' H v (.bl i)) : v = .bl i := by
  cases h.dr (by simp); rfl
theorem Rdv.str {Av Av' : Addr → Prop} {H : Hp} {v : V} {i : Str} (h : Rdv Av Av' H v (.str i)) : v = .str i := by
  cases h.dr (by simp); rfl
theorem Rdv.non {Av Av' : Addr → Prop} {H : Hp} {v : V} (h : Rdv Av Av' H v .non) : v = .non := by
  cases h.dr (by simp); rfl

/-! ### names and constants -/
def rdS (st : Sx) (i : Nat) (Q : Bool → D → Prop) : Prop := match st[i]? with | some (.val d) => Q false d | _ => False
def rdO (st : Sx) (i : Nat) (Q : Bool → D → Prop) : Prop := match st[i]? with | some (.val d) => Q false d | some (.ow c) => Q false c.d | _ => False
section
variable {g : Gd} {X : Cx} {x : Str} {pos : Pos}
theorem we_v (i : Nat) (h : PE X (.Name x pos) (tVar i)) : WE g X (.Name x pos) (fun st Q => rdS st i Q) := by
  refine ⟨_, h, fun Av B gh H0 o σ st H Q Qd hg F R hw hk => ?_⟩
  simp only [rdS] at hw
  split at hw
  · rename_i d e
    obtain ⟨v, e1, r⟩ := R.val i d e
    exact ⟨v, e1, hk false d v H (Kp.refl R.kp.2) (.old r) hw⟩
  · exact hw.elim
theorem wr_v (i : Nat) (h : PE X (.Name x pos) (tVar i)) : WR g X (.Name x pos) (fun st Q => rdO st i Q) := by
  refine ⟨_, h, fun Av B gh H0 o σ st H Q Qd hg F R hw hk => ?_⟩
  simp only [rdO] at hw
  split at hw
  · rename_i d e
    obtain ⟨v, e1, r⟩ := R.val i d e
    exact ⟨v, e1, hk false d v H (Kp.refl R.kp.2) (.inl r) hw⟩
  · rename_i ds e
    obtain ⟨e1, e2, nb, vs, e3, r⟩ := R.ow i ds e
    refine ⟨_, e1, hk false _ _ H (Kp.refl R.kp.2) (.inr ⟨_, vs, ds, rfl, rfl, fun z => z.elim (fun z => F.tr _ z e2) nb, e3, r⟩) hw⟩
  · exact hw.elim
theorem we_c {e : Expr} {v : V} {d : D} (h : PE X e (tC v)) (r : ∀ Av H, DR Av H v d) : WE g X e (fun _ Q => Q false d) :=
  ⟨_, h, fun Av B gh H0 o σ st H Q Qd hg F R hw hk => hk false d v H (Kp.refl R.kp.2) (.old (r _ _)) hw⟩
theorem we_int {i : Int} {j : Nat} : WE g X (.Constant (.int i) j pos) (fun _ Q => Q false (.int i)) := we_c pe_int fun _ _ => .int i
theorem we_bl {b : Bool} {j : Nat} : WE g X (.Constant (.bool b) j pos) (fun _ Q => Q false (.bl b)) := we_c pe_bl fun _ _ => .bl b
theorem we_str {b : Str} {j : Nat} : WE g X (.Constant (.str b) j pos) (fun _ Q => Q false (.str b)) := we_c pe_str fun _ _ => .str b
theorem we_non {j : Nat} : WE g X (.Constant .none j pos) (fun _ Q => Q false .non) := we_c pe_non fun _ _ => .non
/-- an own class or def, a module's constant, a built-in class -/
theorem we_rf {a : Addr} (hg : Gl X x) (hm : X.mg x = some (.ref a)) (hd : (x == ("__debug__" : Str)) = false := by decide) : WE g X (.Name x pos) (fun _ Q => Q false (.rf a)) := we_c (pe_glob hg hm (v := .ref a) rfl hd) fun _ _ => .rf a
theorem we_gi {i : Int} {t : Tok} (hg : Gl X x) (hm : X.mg x = some (.int i t)) (hd : (x == ("__debug__" : Str)) = false := by decide) : WE g X (.Name x pos) (fun _ Q => Q false (.int i)) := we_c (pe_glob hg hm (v := .int i) ⟨_, rfl⟩ hd) fun _ _ => .int i
theorem we_ty {n : String} (hg : Gl X x) (hm : X.mg x = none) (hv : bootBuiltins x = some (.type n)) (hn : x ≠ "__name__" := by decide) (hd : (x == ("__debug__" : Str)) = false := by decide) : WE g X (.Name x pos) (fun _ Q => Q false (.ty n)) := we_c (pe_bltn hg hm hv (v := .ty n) rfl hn hd) fun _ _ => .ty n
end
end DW
namespace DW
open PySem PySem.Spec PyProof.Rows L2

/-! ### plain data as the model's -/
mutual
def D.py : D → PyData
  | .bl b => .bool b
  | .int i => .int i
  | .str x => .str x
  | .tup xs => .tuple (D.pyAll xs)
  | .lst xs => .list (D.pyAll xs)
  | _ => .none
def D.pyAll : List D → List PyData
  | [] => []
  | x :: xs => x.py :: D.pyAll xs
end
mutual
/-- None, truths, ints, texts, tuples and lists of these; ints and texts are short -/
def D.tiny : D → Bool
  | .non => true
  | .bl _ => true
  | .int i => decide (i.natAbs < 10 ^ 36)
  | .str x => PyData.strOk x && x.cps.toList.all (fun c => decide (c < 16 ^ 8))
  | .tup xs => D.tinyAll xs
  | .lst xs => D.tinyAll xs
  | _ => false
def D.tinyAll : List D → Bool
  | [] => true
  | x :: xs => x.tiny && D.tinyAll xs
end
mutual
def D.wt : D → Nat
  | .str x => x.cps.size
  | .tup xs => D.wtAll xs
  | .lst xs => D.wtAll xs
  | .int _ => 1
  | _ => 0
def D.wtAll : List D → Nat
  | [] => 0
  | x :: xs => x.wt + 1 + D.wtAll xs
end
mutual
def D.dep : D → Nat
  | .tup xs => D.depAll xs + 1
  | .lst xs => D.depAll xs + 1
  | _ => 0
def D.depAll : List D → Nat
  | [] => 0
  | x :: xs => max x.dep (D.depAll xs)
end
theorem pyAll_map : ∀ xs : List D, D.pyAll xs = xs.map D.py
  | [] => rfl
  | x :: xs => by simp [D.pyAll, pyAll_map xs]
theorem tinyAll_iff : ∀ xs : List D, D.tinyAll xs = true ↔ ∀ x ∈ xs, x.tiny = true
  | [] => by simp [D.tinyAll]
  | x :: xs => by simp [D.tinyAll, tinyAll_iff xs]
mutual
theorem DR.dp {Av : Addr → Prop} {H : Hp} {K : PySem.W.Frag} : ∀ {d : D} {v : V}, DR Av H v d → d.tiny = true → Dp K H v d.py
  | .non, _, .non, _ => .non
  | .bl b, _, .bl _, _ => .bl b
  | .int b, _, .int _, _ => .int b
  | .str b, _, .str _, _ => .str b
  | .tup ds, _, .tup _ h r, t => by
    simp only [D.py]
    exact .tup (.inl (.inl h)) (DRs.dp r (by simpa [D.tiny] using t))
  | .lst ds, _, .lst _ h r, t => by
    simp only [D.py]
    exact .lst (.inl (.inl h)) (DRs.dp r (by simpa [D.tiny] using t))
  | .dK _, _, _, t => by simp [D.tiny] at t
  | .dT _, _, _, t => by simp [D.tiny] at t
  | .obj _ _, _, _, t => by simp [D.tiny] at t
  | .rf _, _, _, t => by simp [D.tiny] at t
  | .ty _, _, _, t => by simp [D.tiny] at t
theorem DRs.dp {Av : Addr → Prop} {H : Hp} {K : PySem.W.Frag} : ∀ {ds : List D} {vs : List V}, DRs Av H vs ds → D.tinyAll ds = true → DpAll K H vs (D.pyAll ds)
  | [], _, .nil, _ => by simp only [D.pyAll]; exact .nil
  | d :: ds, _, .cons h r, t => by
    simp only [D.tinyAll, Bool.and_eq_true] at t
    simp only [D.pyAll]
    exact .cons (DR.dp h t.1) (DRs.dp r t.2)
end
theorem Rdv.dp {Av Av' : Addr → Prop} {H : Hp} {K : PySem.W.Frag} {d : D} {v : V} (h : Rdv Av Av' H v d) (t : d.tiny = true) : Dp K H v d.py := by
  rcases h with h | ⟨p, u, c, rfl, rfl, _, e, r⟩
  · exact h.dp t
  · cases c with
    | lst ds =>
      obtain ⟨vs, rfl, r⟩ := r
      simp only [Ct.d, D.py]
      exact .lst (.inl (.inl e)) (DRs.dp r (by simpa [Ct.d, D.tiny] using t))
    | dK _ => simp [Ct.d, D.tiny] at t
    | dT _ => simp [Ct.d, D.tiny] at t
mutual
theorem tiny_lay : ∀ d : D, d.tiny = true → d.py.canLay0 = true ∧ d.py.leavesShort 40 = true ∧ d.py.showable = true ∧ d.py.hasDict = false ∧ d.py.weight ≤ 121 * d.wt ∧ d.py.depth = d.dep
  | .non, _ => by simp [D.py, PyData.canLay0, PyData.leavesShort, PyData.showable, PyData.hasDict, PyData.weight, PyData.depth, D.dep]
  | .bl b, _ => by simp [D.py, PyData.canLay0, PyData.leavesShort, PyData.showable, PyData.hasDict, PyData.weight, PyData.depth, D.dep]
  | .int i, t => by
    have h : i.natAbs < 10 ^ 36 := by simpa [D.tiny] using t
    have h2 : i.natAbs.log2 < 120 := by
      by_cases z : i.natAbs = 0
      · rw [z]; decide
      · exact (_root_.Nat.log2_lt z).mpr (Nat.lt_of_lt_of_le h (by decide))
    have e := int_text_length_le10 (k := 36) (by decide) h
    have e2 : (PyData.shown (.int i)).length ≤ 40 := by
      show (Str.ofString (toString i)).length ≤ 40
      rw [PySem.ofString_length]; omega
    refine ⟨rfl, by simpa [D.py, PyData.leavesShort] using e2, by simp only [D.py, PyData.showable]; exact decide_eq_true (by omega), rfl, ?_, rfl⟩
    simp only [D.py, PyData.weight, D.wt]
    split <;> omega
  | .str x, t => by
    simp only [D.tiny, Bool.and_eq_true] at t
    refine ⟨t.1, by simpa [D.py, PyData.leavesShort] using t.2, rfl, rfl, ?_, rfl⟩
    simp only [D.py, PyData.weight, D.wt]
    omega
  | .tup xs, t => by
    obtain ⟨a, b, c, d, e, f⟩ := tinyAll_lay xs (by simpa [D.tiny] using t)
    simp only [D.py, PyData.canLay0, PyData.leavesShort, PyData.showable, PyData.hasDict, PyData.weight, PyData.depth, D.dep, D.wt]
    exact ⟨a, b, c, d, e, by rw [f]⟩
  | .lst xs, t => by
    obtain ⟨a, b, c, d, e, f⟩ := tinyAll_lay xs (by simpa [D.tiny] using t)
    simp only [D.py, PyData.canLay0, PyData.leavesShort, PyData.showable, PyData.hasDict, PyData.weight, PyData.depth, D.dep, D.wt]
    exact ⟨a, b, c, d, e, by rw [f]⟩
  | .dK _, t => by simp [D.tiny] at t
  | .dT _, t => by simp [D.tiny] at t
  | .obj _ _, t => by simp [D.tiny] at t
  | .rf _, t => by simp [D.tiny] at t
  | .ty _, t => by simp [D.tiny] at t
theorem tinyAll_lay : ∀ ds : List D, D.tinyAll ds = true → PyData.canLayAll0 (D.pyAll ds) = true ∧ PyData.leavesShortAll 40 (D.pyAll ds) = true ∧ PyData.showableAll (D.pyAll ds) = true ∧ PyData.hasDictAll (D.pyAll ds) = false ∧ PyData.weightAll (D.pyAll ds) ≤ 121 * D.wtAll ds ∧ PyData.depthAll (D.pyAll ds) = D.depAll ds
  | [], _ => by simp [D.pyAll, PyData.canLayAll0, PyData.leavesShortAll, PyData.showableAll, PyData.hasDictAll, PyData.weightAll, PyData.depthAll, D.depAll, D.wtAll]
  | x :: xs, t => by
    simp only [D.tinyAll, Bool.and_eq_true] at t
    obtain ⟨a, b, c, d, e, f⟩ := tiny_lay x t.1
    obtain ⟨a', b', c', d', e', f'⟩ := tinyAll_lay xs t.2
    simp only [D.pyAll, PyData.canLayAll0, PyData.leavesShortAll, PyData.showableAll, PyData.hasDictAll, PyData.weightAll, PyData.depthAll, D.depAll, D.wtAll, a, b, c, d, a', b', c', d', f, f']
    refine ⟨by simp, by simp, by simp, by simp, ?_, by simp⟩
    omega
end
/-- fit to be shown -/
def D.shw (d : D) : Prop := d.tiny = true ∧ d.wt ≤ 3000 ∧ d.dep ≤ 60
def D.shown (d : D) : Str := d.py.shown
theorem shw_len {d : D} (h : d.shw) : d.py.shown.length ≤ sizeLine := by
  obtain ⟨t, w, p⟩ := h
  obtain ⟨a, b, c, e, f, g⟩ := tiny_lay d t
  have q := PyData.shown_le 40 (by decide) d.py b
  have z : sizeLine = 16777216 := sizeLine_eq
  rw [z]
  have : (40 + 2) * d.py.weight ≤ 42 * (121 * 3000) := Nat.mul_le_mul (Nat.le_refl _) (Nat.le_trans f (Nat.mul_le_mul (Nat.le_refl _) w))
  omega
theorem tiny_shaped {d : D} (h : d.tiny = true) (p : d.dep ≤ 60) : SeqAt.shaped d.py = true := by
  obtain ⟨a, b, c, e, f, g⟩ := tiny_lay d h
  unfold SeqAt.shaped
  rw [a, g]
  exact decide_eq_true (by omega)

/-! ### repr -/
def rRepr (K : PySem.W.Frag) : List V → Hp → VK → Prop := fun xs H Q => ∃ v d, xs = [v] ∧ Dp K H v d ∧ d.showable = true ∧ d.hasDict = false ∧ d.depth ≤ 60 ∧ d.shown.length ≤ sizeLine ∧ Q (.str d.shown) H
theorem cr_repr {X : Cx} (gd : X.A.guards = some []) (hu : X.A.units + 64 < cLine) : CallR X (.builtin "repr") (rRepr X.K) := by
  intro pins s σ H xs us Q I r h
  obtain ⟨v, d, rfl, hd, hs, hn, hp, hz, q⟩ := h
  obtain ⟨u, rfl, ru⟩ := vals1 r
  obtain ⟨as, rd⟩ := Dp.reads I d v u hd ru
  have fin : ∀ (h' : Heap) (u' tk : Tok), (∀ b o, s.heap.get? b = some o → h'.get? b = some o) → EP X pins σ Q (.str d.shown u') { s with heap := h', toks := tk } :=
    fun h' u' tk k => ⟨.str d.shown, H, I.kept (t' := tk) k, ⟨_, rfl⟩, q⟩
  cases hd with
  | non => cases ru; exact PySem.P.repr_of_none ⟨.str _, H, I.tok _, ⟨_, rfl⟩, q⟩
  | bl b => cases ru; exact PySem.P.repr_of_bool ⟨.str _, H, I.tok _, ⟨_, rfl⟩, q⟩
  | int i =>
    obtain ⟨t, rfl⟩ := ru
    exact PySem.P.repr_of_int (of_decide_eq_true (by simpa [PyData.showable] using hs)) ⟨.str _, H, I.tok _, ⟨_, rfl⟩, q⟩
  | str x =>
    obtain ⟨t, rfl⟩ := ru
    exact PySem.P.repr_of_str ⟨.str _, H, I.tok _, ⟨_, rfl⟩, q⟩ hz
  | lst _ _ => cases ru; exact repr_of_reads' rd hs (PyData.noDict_hsm hn) gd (by omega) (fun _ _ e => e) (fun h' u tk k => fin h' u tk k) hz
  | tup _ _ => cases ru; exact repr_of_reads' rd hs (PyData.noDict_hsm hn) gd (by omega) (fun _ _ e => e) (fun h' u tk k => fin h' u tk k) hz
end DW
namespace DW
open PySem PySem.Spec PyProof.Rows L2

abbrev RQ := Bool → D → Prop
/-- where an operation on values stands -/
structure Fit (g : Gd) (Avs Av : Addr → Prop) (H : Hp) : Prop where
  gg : g.G H
  t1 : ∀ a, g.T a → Avs a
  t2 : ∀ a, g.T a → Av a
  tr : ∀ a, Avs a → H a ≠ none
  sub : ∀ a, Av a → Avs a
  ol : ∀ a, Avs a → ¬ Av a → ∃ u, H a = some u ∧ Mt u
section
variable {g : Gd} {Avs Av : Addr → Prop} {H H1 : Hp}
theorem Fit.mono (F : Fit g Avs Av H) (k : Kp g H H1) : Fit g Avs Av H1 := ⟨k.2, F.t1, F.t2, fun a h => Kp.tracked k.2 k (F.tr a h), F.sub, fun a h n => let ⟨vs, e, m⟩ := F.ol a h n; ⟨vs, k.1 a _ e fun w => n (F.t2 a (g.wt a w)), m⟩⟩
/-- a new list -/
theorem Fit.lst (F : Fit g Avs Av H) {vs : List V} {ds : List D} {p : Addr} (r : DRs Avs H vs ds) (hp : H p = none) : Kp g H (upd H p (.lst vs)) ∧ Res Avs H (.ref p) true (.lst ds) (upd H p (.lst vs)) := by
  have k : Kp g H (upd H p (.lst vs)) := Kp.new F.gg hp
  have np : ¬ Avs p := fun z => F.tr p z hp
  have m : Mv Avs (fun a => Avs a ∨ a = p) H (upd H p (.lst vs)) := by
    refine ⟨fun a u n e => ?_⟩
    have ne : a ≠ p := ne_of_none e hp
    exact ⟨fun z => z.elim n ne, by rw [upd_ne ne]; exact e⟩
  have m2 : Mv Avs Avs H (upd H p (.lst vs)) := Mv.kp F.t1 k
  exact ⟨k, .lst np upd_same (r.mv m2), fun _ => ⟨p, vs, ds, rfl, rfl, hp, upd_same, r.mv m⟩⟩
theorem Fit.tup (F : Fit g Avs Av H) {vs : List V} {ds : List D} {p : Addr} (r : DRs Avs H vs ds) (hp : H p = none) : Kp g H (upd H p (.tup vs)) ∧ Res Avs H (.ref p) false (.tup ds) (upd H p (.tup vs)) := by
  have k : Kp g H (upd H p (.tup vs)) := Kp.new F.gg hp
  have np : ¬ Avs p := fun z => F.tr p z hp
  exact ⟨k, .tup np upd_same (r.mv (Mv.kp F.t1 k)), fun z => nomatch z⟩
end
theorem Rel.fit {g : Gd} {Av B : Addr → Prop} {gh : V → D → Prop} {H0 H : Hp} {o : Nat → Addr} {σ : L2.St} {st : Sx} (F : FrOk g Av H0) (R : Rel g Av B gh H0 o σ st H) : Fit g (Avo Av B o st) (fun a => Av a ∨ B a) H :=
  ⟨R.kp.2, fun a h => Avo.ta F h, fun a h => .inl (F.ta a h), fun a h => R.tracked F h, fun a h => .inl h, fun a h n => by
    rcases h with h | ⟨i, ds, e1, e2⟩
    · exact absurd h n
    · obtain ⟨_, _, _, vs, e3, r⟩ := R.ow i ds e1
      rw [e2] at e3; exact ⟨vs, e3, r.mt⟩⟩

/-! ### argument lists -/
abbrev WPA := Sx → (List D → Prop) → Prop
def WA (g : Gd) (X : Cx) (es : List Expr) (w : WPA) : Prop := ∃ t, PA X es t ∧ ∀ Av B gh H0 o σ st H Q Qd, g.G H0 → FrOk g Av H0 → Rel g Av B gh H0 o σ st H → w st Qd →
  (∀ ds vs H', Kp g H H' → DRs (Avo Av B o st) H' vs ds → Qd ds → Q vs H') → t σ H Q
inductive Rdvs (Avs Av : Addr → Prop) (H : Hp) : List V → List D → Prop
  | nil : Rdvs Avs Av H [] []
  | cons {v : V} {vs : List V} {d : D} {ds : List D} : Rdv Avs Av H v d → Rdvs Avs Av H vs ds → Rdvs Avs Av H (v :: vs) (d :: ds)
def WAR (g : Gd) (X : Cx) (es : List Expr) (w : WPA) : Prop := ∃ t, PA X es t ∧ ∀ Av B gh H0 o σ st H Q Qd, g.G H0 → FrOk g Av H0 → Rel g Av B gh H0 o σ st H → w st Qd →
  (∀ ds vs H', Kp g H H' → Rdvs (Avo Av B o st) (fun a => Av a ∨ B a) H' vs ds → Qd ds → Q vs H') → t σ H Q
section
variable {g : Gd} {X : Cx} {e : Expr} {es : List Expr} {w : WP} {wa : WPA}
theorem wa_nil : WA g X [] (fun _ Q => Q []) := ⟨_, pa_nil, fun Av B gh H0 o σ st H Q Qd hg F R hw hk => hk [] [] H (Kp.refl R.kp.2) .nil hw⟩
theorem wa_cons (h : WE g X e w) (hr : WA g X es wa) (hs : starEach (e :: es) X.env = (false, eval e X.env) :: starEach es X.env := by rfl) : WA g X (e :: es) (fun st Q => w st fun _ d => wa st fun ds => Q (d :: ds)) := by
  obtain ⟨t, p, q⟩ := h
  obtain ⟨t2, p2, q2⟩ := hr
  refine ⟨_, pa_cons p p2 hs, fun Av B gh H0 o σ st H Q Qd hg F R hw hk => ?_⟩
  refine q Av B gh H0 o σ st H _ _ hg F R hw fun fr d v H1 k1 r1 hw1 => ?_
  refine q2 Av B gh H0 o σ st H1 _ _ hg F (R.mono F k1) hw1 fun ds vs H2 k2 r2 hd => ?_
  exact hk (d :: ds) (v :: vs) H2 (k1.trans k2) (.cons (r1.dr.mv (Mv.avo F k2)) r2) hd
theorem war_nil : WAR g X [] (fun _ Q => Q []) := ⟨_, pa_nil, fun Av B gh H0 o σ st H Q Qd hg F R hw hk => hk [] [] H (Kp.refl R.kp.2) .nil hw⟩
theorem war_cons (h : WR g X e w) (hr : WAR g X es wa) (hs : starEach (e :: es) X.env = (false, eval e X.env) :: starEach es X.env := by rfl) : WAR g X (e :: es) (fun st Q => w st fun _ d => wa st fun ds => Q (d :: ds)) := by
  obtain ⟨t, p, q⟩ := h
  obtain ⟨t2, p2, q2⟩ := hr
  refine ⟨_, pa_cons p p2 hs, fun Av B gh H0 o σ st H Q Qd hg F R hw hk => ?_⟩
  refine q Av B gh H0 o σ st H _ _ hg F R hw fun fr d v H1 k1 r1 hw1 => ?_
  refine q2 Av B gh H0 o σ st H1 _ _ hg F (R.mono F k1) hw1 fun ds vs H2 k2 r2 hd => ?_
  exact hk (d :: ds) (v :: vs) H2 (k1.trans k2) (.cons (r1.mono (fun a h => Avo.ta F h) (fun a h => .inl (F.ta a h)) k2) r2) hd

/-! ### displays -/
theorem we_tup {x1 : Nat} {pos : Pos} (h : WA g X es wa) : WE g X (.Tuple es x1 pos) (fun st Q => wa st fun ds => ds.length ≤ sizeLine ∧ Q false (.tup ds)) := by
  obtain ⟨t, p, q⟩ := h
  refine ⟨_, pe_tup p, fun Av B gh H0 o σ st H Q Qd hg F R hw hk => ?_⟩
  refine q Av B gh H0 o σ st H _ _ hg F R hw fun ds vs H1 k1 r1 hd => ?_
  refine ⟨by rw [r1.length]; exact hd.1, fun a ha => ?_⟩
  obtain ⟨k2, r2⟩ := ((R.mono F k1).fit F).tup r1 ha
  exact hk false _ _ _ (k1.trans k2) (.old r2.dr) hd.2
theorem we_lst {pos : Pos} (h : WA g X es wa) : WE g X (.List es pos) (fun st Q => wa st fun ds => ds.length ≤ sizeLine ∧ Q true (.lst ds)) := by
  obtain ⟨t, p, q⟩ := h
  refine ⟨_, pe_lst p, fun Av B gh H0 o σ st H Q Qd hg F R hw hk => ?_⟩
  refine q Av B gh H0 o σ st H _ _ hg F R hw fun ds vs H1 k1 r1 hd => ?_
  refine ⟨by rw [r1.length]; exact hd.1, fun a ha => ?_⟩
  obtain ⟨k2, r2⟩ := ((R.mono F k1).fit F).lst r1 ha
  refine hk true _ _ _ (k1.trans k2) ⟨r2.dr, fun _ => ?_⟩ hd.2
  obtain ⟨p', vs', ds', e1, e2, e3, e4, e5⟩ := r2.new rfl
  exact ⟨p', vs', ds', e1, e2, k1.free R.kp.2 e3, e4, e5⟩
end

/-! ### operations on two values -/
abbrev Sem2 := D → D → RQ → Prop
def S2 (g : Gd) (r : R2) (m : Sem2) : Prop := ∀ (Avs Av : Addr → Prop) (H : Hp) (x y : D) (vx vy : V) (Q : VK) (Qd : RQ), Fit g Avs Av H → Rdv Avs Av H vx x → Rdv Avs Av H vy y → m x y Qd →
  (∀ fr d v H', Kp g H H' → Res Avs H v fr d H' → Qd fr d → Q v H') → r vx vy H Q
theorem Res.back {g : Gd} {Avs : Addr → Prop} {H H1 H2 : Hp} {v : V} {fr : Bool} {d : D} (hg : g.G H) (k : Kp g H H1) (r : Res Avs H1 v fr d H2) : Res Avs H v fr d H2 :=
  ⟨r.dr, fun e => let ⟨p, vs, ds, e1, e2, e3, e4⟩ := r.new e; ⟨p, vs, ds, e1, e2, k.free hg e3, e4⟩⟩
section
variable {g : Gd} {X : Cx} {a b : Expr} {wa wb : WP} {m : Sem2} {r : R2} {pos : Pos}
theorem we_bin {op : Operator} (ho : OpR X (binaryOp op) r) (hs : S2 g r m) (ha : WR g X a wa) (hb : WR g X b wb) : WE g X (.BinOp a op b pos) (fun st Q => wa st fun _ x => wb st fun _ y => m x y Q) := by
  obtain ⟨t, p, q⟩ := ha
  obtain ⟨t2, p2, q2⟩ := hb
  refine ⟨_, pe_op ho p p2, fun Av B gh H0 o σ st H Q Qd hg F R hw hk => ?_⟩
  refine q Av B gh H0 o σ st H _ _ hg F R hw fun fr d v H1 k1 r1 hw1 => ?_
  refine q2 Av B gh H0 o σ st H1 _ _ hg F (R.mono F k1) hw1 fun fr2 d2 v2 H2 k2 r2 hd => ?_
  refine hs _ _ H2 d d2 v v2 Q Qd (((R.mono F k1).mono F k2).fit F) (r1.mono (fun a h => Avo.ta F h) (fun a h => .inl (F.ta a h)) k2) r2 hd fun fr d v H' k3 r3 hq => ?_
  exact hk fr d v H' ((k1.trans k2).trans k3) (r3.back R.kp.2 (k1.trans k2)) hq
theorem we_cmp {op : CmpOp} (ho : OpR X (compareOp op) r) (hs : S2 g r m) (ha : WR g X a wa) (hb : WR g X b wb) (hm : behindInMarks op b = false) : WE g X (.Compare a [op] [b] pos) (fun st Q => wa st fun _ x => wb st fun _ y => m x y Q) := by
  obtain ⟨t, p, q⟩ := ha
  obtain ⟨t2, p2, q2⟩ := hb
  refine ⟨_, pe_cmpR ho p p2 hm, fun Av B gh H0 o σ st H Q Qd hg F R hw hk => ?_⟩
  refine q Av B gh H0 o σ st H _ _ hg F R hw fun fr d v H1 k1 r1 hw1 => ?_
  refine q2 Av B gh H0 o σ st H1 _ _ hg F (R.mono F k1) hw1 fun fr2 d2 v2 H2 k2 r2 hd => ?_
  refine hs _ _ H2 d d2 v v2 Q Qd (((R.mono F k1).mono F k2).fit F) (r1.mono (fun a h => Avo.ta F h) (fun a h => .inl (F.ta a h)) k2) r2 hd fun fr d v H' k3 r3 hq => ?_
  exact hk fr d v H' ((k1.trans k2).trans k3) (r3.back R.kp.2 (k1.trans k2)) hq
theorem we_ix (hx : IxR X r) (hs : S2 g r m) (ha : WR g X a wa) (hb : WR g X b wb) (hp : PlainIx b := by exact fun _ _ => rfl) : WE g X (.Subscript a b pos) (fun st Q => wa st fun _ x => wb st fun _ y => m x y Q) := by
  obtain ⟨t, p, q⟩ := ha
  obtain ⟨t2, p2, q2⟩ := hb
  refine ⟨_, pe_ix hx p p2 hp, fun Av B gh H0 o σ st H Q Qd hg F R hw hk => ?_⟩
  refine q Av B gh H0 o σ st H _ _ hg F R hw fun fr d v H1 k1 r1 hw1 => ?_
  refine q2 Av B gh H0 o σ st H1 _ _ hg F (R.mono F k1) hw1 fun fr2 d2 v2 H2 k2 r2 hd => ?_
  refine hs _ _ H2 d d2 v v2 Q Qd (((R.mono F k1).mono F k2).fit F) (r1.mono (fun a h => Avo.ta F h) (fun a h => .inl (F.ta a h)) k2) r2 hd fun fr d v H' k3 r3 hq => ?_
  exact hk fr d v H' ((k1.trans k2).trans k3) (r3.back R.kp.2 (k1.trans k2)) hq
/-- a op1 b op2 c -/
theorem we_chain {c : Expr} {wc : WP} {op op' : CmpOp} {r' : R2} {m' : Sem2} (ho : OpR X (compareOp op) r) (ho' : OpR X (compareOp op') r') (hs : S2 g r m) (hs' : S2 g r' m') (ha : WR g X a wa) (hb : WR g X b wb) (hc : WR g X c wc)
    (pc : ∀ {ta tb tc}, PE X a ta → PE X b tb → PE X c tc → PE X (.Compare a [op, op'] [b, c] pos) (tChain r r' ta tb tc)) :
    WE g X (.Compare a [op, op'] [b, c] pos) (fun st Q => wa st fun _ x => wb st fun _ y => m x y fun _ z => ∃ k, z = .bl k ∧ (if k = true then wc st fun _ u => m' y u Q else Q false (.bl false))) := by
  obtain ⟨t, p, q⟩ := ha
  obtain ⟨t2, p2, q2⟩ := hb
  obtain ⟨t3, p3, q3⟩ := hc
  refine ⟨_, pc p p2 p3, fun Av B gh H0 o σ st H Q Qd hg F R hw hk => ?_⟩
  have T1 : ∀ a, g.T a → Avo Av B o st a := fun a h => Avo.ta F h
  have T2 : ∀ a, g.T a → (Av a ∨ B a) := fun a h => .inl (F.ta a h)
  refine q Av B gh H0 o σ st H _ _ hg F R hw fun fr d v H1 k1 r1 hw1 => ?_
  refine q2 Av B gh H0 o σ st H1 _ _ hg F (R.mono F k1) hw1 fun fr2 d2 v2 H2 k2 r2 hd => ?_
  refine hs _ _ H2 d d2 v v2 _ _ (((R.mono F k1).mono F k2).fit F) (r1.mono T1 T2 k2) r2 hd fun fr d3 v3 H3 k3 r3 hq => ?_
  obtain ⟨k, rfl, hq⟩ := hq
  have e3 : v3 = .bl k := by cases r3.dr; rfl
  refine ⟨k, e3, ?_⟩
  cases k with
  | true =>
    simp only [if_true] at hq ⊢
    refine q3 Av B gh H0 o σ st H3 _ _ hg F (R.mono F ((k1.trans k2).trans k3)) hq fun fr4 d4 v4 H4 k4 r4 hd4 => ?_
    refine hs' _ _ H4 d2 d4 v2 v4 Q Qd ((R.mono F (((k1.trans k2).trans k3).trans k4)).fit F) (r2.mono T1 T2 (k3.trans k4)) r4 hd4 fun fr5 d5 v5 H5 k5 r5 hq5 => ?_
    exact hk fr5 d5 v5 H5 ((((k1.trans k2).trans k3).trans k4).trans k5) (r5.back R.kp.2 (((k1.trans k2).trans k3).trans k4)) hq5
  | false =>
    simp only [Bool.false_eq_true, if_false] at hq ⊢
    exact hk false _ _ H3 ((k1.trans k2).trans k3) (.old (.bl false)) hq
end

/-! ### the operations -/
def mI (f : Int → Int → Int) : Sem2 | .int i, .int j, Q => Q false (.int (f i j)) | _, _, _ => False
def mIC (c : Int → Int → Prop) (f : Int → Int → Int) : Sem2 | .int i, .int j, Q => c i j ∧ Q false (.int (f i j)) | _, _, _ => False
def mB (f : Int → Int → Bool) : Sem2 | .int i, .int j, Q => Q false (.bl (f i j)) | _, _, _ => False
section
variable {g : Gd} {X : Cx}
theorem s2_I {f : Int → Int → Int} : S2 g (rI0 fun i j => .int (f i j)) (mI f) := by
  intro Avs Av H x y vx vy Q Qd F rx ry hm hk
  cases x <;> cases y <;> simp only [mI] at hm
  cases rx.int; cases ry.int
  exact ⟨_, _, rfl, rfl, hk false _ _ H (Kp.refl F.gg) (.old (.int _)) hm⟩
theorem s2_IC {c : Int → Int → Prop} {f : Int → Int → Int} : S2 g (rI c fun i j => .int (f i j)) (mIC c f) := by
  intro Avs Av H x y vx vy Q Qd F rx ry hm hk
  cases x <;> cases y <;> simp only [mIC] at hm
  cases rx.int; cases ry.int
  exact ⟨_, _, rfl, rfl, hm.1, hk false _ _ H (Kp.refl F.gg) (.old (.int _)) hm.2⟩
theorem s2_B {f : Int → Int → Bool} : S2 g (rI0 fun i j => .bl (f i j)) (mB f) := by
  intro Avs Av H x y vx vy Q Qd F rx ry hm hk
  cases x <;> cases y <;> simp only [mB] at hm
  cases rx.int; cases ry.int
  exact ⟨_, _, rfl, rfl, hk false _ _ H (Kp.refl F.gg) (.old (.bl _)) hm⟩
/-- + -/
def mAdd : Sem2
  | .int i, .int j, Q => Q false (.int (i + j))
  | .int i, .bl b, Q => Q false (.int (i + b2i b))
  | .lst a, .lst b, Q => a.length + b.length ≤ sizeLine ∧ Q true (.lst (a ++ b))
  | .tup a, .tup b, Q => a.length + b.length ≤ sizeLine ∧ Q false (.tup (a ++ b))
  | .str a, .str b, Q => a.length + b.length ≤ sizeLine ∧ Q false (.str (a ++ b))
  | _, _, _ => False
def rAddA (X : Cx) : R2 := fun x y H Q => rI0 (fun i j => .int (i + j)) x y H Q ∨ (∃ i k, x = .int i ∧ y = .bl k ∧ Q (.int (i + b2i k)) H) ∨ rCat x y H Q ∨ rCatA X.K x y H Q ∨ (∃ i j, x = .str i ∧ y = .str j ∧ i.length + j.length ≤ sizeLine ∧ Q (.str (i ++ j)) H)
theorem op_addA : OpR X (binaryOp .Add) (rAddA X) := op_add.or (op_add_ib.or (op_cat.or (op_catA.or op_add_str)))
theorem s2_add : S2 g (rAddA X) mAdd := by
  intro Avs Av H x y vx vy Q Qd F rx ry hm hk
  cases x <;> cases y <;> simp only [mAdd] at hm
  case int.bl i b => cases rx.int; cases ry.bl; exact .inr (.inl ⟨_, _, rfl, rfl, hk false _ _ H (Kp.refl F.gg) (.old (.int _)) hm⟩)
  case int.int i j => cases rx.int; cases ry.int; exact .inl ⟨_, _, rfl, rfl, hk false _ _ H (Kp.refl F.gg) (.old (.int _)) hm⟩
  case str.str i j => cases rx.str; cases ry.str; exact .inr (.inr (.inr (.inr ⟨_, _, rfl, rfl, hm.1, hk false _ _ H (Kp.refl F.gg) (.old (.str _)) hm.2⟩)))
  case tup.tup a b =>
    obtain ⟨p, vs, rfl, e1, r1, d1⟩ := rx.tup
    obtain ⟨q, ws, rfl, e2, r2, d2⟩ := ry.tup
    have l1 := r1.length
    have l2 := r2.length
    refine .inr (.inr (.inr (.inl ⟨p, q, vs, ws, rfl, rfl, .inl (.inl e1), .inl (.inl e2), by rw [l1, l2]; exact hm.1, fun z => ?_, fun z z2 => ?_, fun z z2 u hu => ?_⟩)))
    · subst z
      have ea : a = [] := List.length_eq_zero_iff.mp (by simpa using l1.symm)
      subst ea
      exact hk false _ _ H (Kp.refl F.gg) (.old (by simpa using d2)) hm.2
    · subst z2
      have ea : b = [] := List.length_eq_zero_iff.mp (by simpa using l2.symm)
      subst ea
      exact hk false _ _ H (Kp.refl F.gg) (.old (by simpa using d1)) hm.2
    · obtain ⟨k, r⟩ := F.tup (r1.app r2) hu
      exact hk false _ _ _ k r hm.2
  case lst.lst a b =>
    obtain ⟨p, vs, rfl, e1, r1⟩ := rx.lst
    obtain ⟨q, ws, rfl, e2, r2⟩ := ry.lst
    refine .inr (.inr (.inl ⟨p, q, vs, ws, rfl, rfl, e1, e2, by rw [r1.length, r2.length]; exact hm.1, fun u hu => ?_⟩))
    obtain ⟨k, r⟩ := F.lst (r1.app r2) hu
    exact hk true _ _ _ k r hm.2
/-- * -/
def mMul : Sem2
  | .int i, .int j, Q => CMul i j ∧ Q false (.int (i * j))
  | .lst a, .int k, Q => -(2 ^ 63) ≤ k ∧ k < 2 ^ 63 ∧ a.length * k.toNat ≤ sizeLine ∧ Q true (.lst (List.replicate k.toNat a).flatten)
  | _, _, _ => False
def rMulA : R2 := fun x y H Q => rI CMul (fun i j => .int (i * j)) x y H Q ∨ rRep x y H Q
theorem op_mulA : OpR X (binaryOp .Mult) rMulA := op_mul.or op_rep
theorem s2_mul : S2 g rMulA mMul := by
  intro Avs Av H x y vx vy Q Qd F rx ry hm hk
  cases x <;> cases y <;> simp only [mMul] at hm
  case int.int i j => cases rx.int; cases ry.int; exact .inl ⟨_, _, rfl, rfl, hm.1, hk false _ _ H (Kp.refl F.gg) (.old (.int _)) hm.2⟩
  case lst.int a k =>
    obtain ⟨p, vs, rfl, e1, r1⟩ := rx.lst
    cases ry.int
    refine .inr ⟨p, k, vs, rfl, rfl, e1, hm.1, hm.2.1, by rw [r1.length]; exact hm.2.2.1, fun u hu => ?_⟩
    obtain ⟨kp, r⟩ := F.lst (r1.rep k.toNat) hu
    exact hk true _ _ _ kp r hm.2.2.2
/-- ==, != of plain data -/
def mEq : Sem2 := fun x y Q => (x.tiny = true ∧ x.dep ≤ 60) ∧ (y.tiny = true ∧ y.dep ≤ 60) ∧ Q false (.bl (PyData.eqv x.py y.py))
def mNe : Sem2 := fun x y Q => (x.tiny = true ∧ x.dep ≤ 60) ∧ (y.tiny = true ∧ y.dep ≤ 60) ∧ Q false (.bl (!PyData.eqv x.py y.py))
theorem s2_eq : S2 g (rEqD X.K) mEq := by
  intro Avs Av H x y vx vy Q Qd F rx ry hm hk
  obtain ⟨⟨a, b⟩, ⟨c, d⟩, q⟩ := hm
  exact ⟨x.py, y.py, rx.dp a, ry.dp c, tiny_shaped a b, tiny_shaped c d, hk false _ _ H (Kp.refl F.gg) (.old (.bl _)) q⟩
theorem s2_ne : S2 g (rNeD X.K) mNe := by
  intro Avs Av H x y vx vy Q Qd F rx ry hm hk
  obtain ⟨⟨a, b⟩, ⟨c, d⟩, q⟩ := hm
  exact ⟨x.py, y.py, rx.dp a, ry.dp c, tiny_shaped a b, tiny_shaped c d, hk false _ _ H (Kp.refl F.gg) (.old (.bl _)) q⟩
/-- in, not in: flat items -/
def D.flat : D → Bool | .non => true | .bl _ => true | .int _ => true | .str _ => true | _ => false
def D.fv : D → V | .bl b => .bl b | .int i => .int i | .str x => .str x | _ => .non
theorem DR.flat {Av : Addr → Prop} {H : Hp} {v : V} {d : D} (h : DR Av H v d) (f : d.flat = true) : v = d.fv ∧ flatV v = true := by
  cases h <;> simp [D.flat, D.fv, flatV] at f ⊢
theorem DRs.flat {Av : Addr → Prop} {H : Hp} : ∀ {vs : List V} {ds : List D}, DRs Av H vs ds → ds.all D.flat = true → vs = ds.map D.fv ∧ vs.all flatV = true
  | _, _, .nil, _ => ⟨rfl, rfl⟩
  | _, _, .cons h r, f => by
    simp only [List.all_cons, Bool.and_eq_true] at f
    obtain ⟨a, b⟩ := h.flat f.1
    obtain ⟨c, d⟩ := r.flat f.2
    exact ⟨by rw [a, c]; rfl, by simp only [List.all_cons, b, d, Bool.and_self]⟩
def mIn (neg : Bool) : Sem2
  | x, .lst ys, Q => x.flat = true ∧ ys.all D.flat = true ∧ Q false (.bl (if neg then !inV x.fv (ys.map D.fv) else inV x.fv (ys.map D.fv)))
  | x, .tup ys, Q => x.flat = true ∧ ys.all D.flat = true ∧ Q false (.bl (if neg then !inV x.fv (ys.map D.fv) else inV x.fv (ys.map D.fv)))
  | _, _, _ => False
theorem s2_in {neg : Bool} : S2 g (rIn X.K neg) (mIn neg) := by
  intro Avs Av H x y vx vy Q Qd F rx ry hm hk
  have fx : ∀ {f : x.flat = true}, vx = x.fv ∧ flatV vx = true := fun {f} => (rx.dr (by cases x <;> simp [D.flat] at f ⊢)).flat f
  cases y <;> simp only [mIn] at hm
  case tup ys =>
    obtain ⟨f1, f2, q⟩ := hm
    obtain ⟨p, vs, rfl, e1, r1, _⟩ := ry.tup
    obtain ⟨a, b⟩ := fx (f := f1)
    obtain ⟨c, d⟩ := r1.flat f2
    refine ⟨p, vs, rfl, .inr (.inl (.inl e1)), b, d, ?_⟩
    rw [a, c]
    exact hk false _ _ H (Kp.refl F.gg) (.old (.bl _)) q
  case lst ys =>
    obtain ⟨f1, f2, q⟩ := hm
    obtain ⟨p, vs, rfl, e1, r1⟩ := ry.lst
    obtain ⟨a, b⟩ := fx (f := f1)
    obtain ⟨c, d⟩ := r1.flat f2
    refine ⟨p, vs, rfl, .inl (.inl (.inl e1)), b, d, ?_⟩
    rw [a, c]
    exact hk false _ _ H (Kp.refl F.gg) (.old (.bl _)) q
/-- an item -/
def mIx : Sem2
  | .lst xs, .int i, Q => ∃ d, atI xs i = some d ∧ Q false d
  | .tup xs, .int i, Q => ∃ d, atI xs i = some d ∧ Q false d
  | _, _, _ => False
theorem DRs.at {Av : Addr → Prop} {H : Hp} {vs : List V} {ds : List D} {i : Int} {d : D} (r : DRs Av H vs ds) (h : atI ds i = some d) : ∃ v, atI vs i = some v ∧ DR Av H v d := by
  unfold atI at h ⊢
  rw [r.length]
  cases e : ixN ds.length i with
  | none => rw [e] at h; cases h
  | some j => rw [e] at h; exact r.get h
theorem s2_ix : S2 g (rIx X.K) mIx := by
  intro Avs Av H x y vx vy Q Qd F rx ry hm hk
  cases x <;> cases y <;> simp only [mIx] at hm
  case tup.int xs i =>
    obtain ⟨d, e, q⟩ := hm
    obtain ⟨p, vs, rfl, e1, r1, _⟩ := rx.tup
    cases ry.int
    obtain ⟨v, ev, rv⟩ := r1.at e
    exact .inr (.inl ⟨p, vs, i, v, rfl, rfl, .inl (.inl e1), ev, hk false _ _ H (Kp.refl F.gg) (.old rv) q⟩)
  case lst.int xs i =>
    obtain ⟨d, e, q⟩ := hm
    obtain ⟨p, vs, rfl, e1, r1⟩ := rx.lst
    cases ry.int
    obtain ⟨v, ev, rv⟩ := r1.at e
    exact .inl ⟨p, vs, i, v, rfl, rfl, .inl (.inl e1), ev, hk false _ _ H (Kp.refl F.gg) (.old rv) q⟩
/-- is None, is not None -/
def mIs (neg : Bool) : Sem2
  | x, .non, Q => (∀ xs, x ≠ .lst xs) ∧ Q false (.bl (if neg then !decide (x.fv = .non ∧ x.flat = true) else decide (x.fv = .non ∧ x.flat = true)))
  | _, _, _ => False
end
end DW
namespace DW
open PySem PySem.Spec PyProof.Rows L2

/-! ### defs -/
def spOf (g : Gd) (n : Nat) (SP : List D → RQ → Prop) : Sp := fun vs H Q _ => vs.length = n ∧ ∃ (Av : Addr → Prop) (ds : List D) (Qd : RQ), g.G H ∧ FrOk g Av H ∧ DRs Av H vs ds ∧ SP ds Qd ∧
  ∀ fr d v H', Kp g H H' → Res Av H v fr d H' → Qd fr d → Q v H'
theorem Rel.frok {g : Gd} {Av B : Addr → Prop} {gh : V → D → Prop} {H0 H : Hp} {o : Nat → Addr} {σ : L2.St} {st : Sx} (F : FrOk g Av H0) (R : Rel g Av B gh H0 o σ st H) : FrOk g (Avo Av B o st) H :=
  ⟨fun a h => Avo.ta F h, fun a h => R.tracked F h⟩
mutual
/-- no lists or dicts within -/
def D.imm : D → Bool
  | .lst _ => false
  | .dK _ => false
  | .dT _ => false
  | .tup xs => D.immAll xs
  | .obj _ fs => D.immF fs
  | _ => true
def D.immAll : List D → Bool
  | [] => true
  | x :: xs => x.imm && D.immAll xs
def D.immF : List (Str × D) → Bool
  | [] => true
  | (_, x) :: xs => x.imm && D.immF xs
end
mutual
theorem DR.imm {Av Av' : Addr → Prop} {H : Hp} (h : ∀ a, Av' a → ¬ Av a → ∃ u, H a = some u ∧ Mt u) : ∀ {v : V} {d : D}, DR Av H v d → d.imm = true → DR Av' H v d
  | _, _, .non, _ => .non
  | _, _, .bl b, _ => .bl b
  | _, _, .int i, _ => .int i
  | _, _, .str x, _ => .str x
  | _, _, .ty n, _ => .ty n
  | _, _, .rf a, _ => .rf a
  | _, _, .tup n e r, i => .tup (fun z => by obtain ⟨u, q, m⟩ := h _ z n; rw [e] at q; cases q; exact m) e (DRs.imm h r (by simpa [D.imm] using i))
  | _, _, .lst n e r, i => by simp [D.imm] at i
  | _, _, .dK n e r, i => by simp [D.imm] at i
  | _, _, .dT n e r, i => by simp [D.imm] at i
  | _, _, .obj n e r, i => .obj (fun z => by obtain ⟨u, q, m⟩ := h _ z n; rw [e] at q; cases q; exact m) e (DRf.imm h r (by simpa [D.imm] using i))
theorem DRs.imm {Av Av' : Addr → Prop} {H : Hp} (h : ∀ a, Av' a → ¬ Av a → ∃ u, H a = some u ∧ Mt u) : ∀ {v : List V} {d : List D}, DRs Av H v d → D.immAll d = true → DRs Av' H v d
  | _, _, .nil, _ => .nil
  | _, _, .cons q r, i => by
    simp only [D.immAll, Bool.and_eq_true] at i
    exact .cons (DR.imm h q i.1) (DRs.imm h r i.2)
theorem DRf.imm {Av Av' : Addr → Prop} {H : Hp} (h : ∀ a, Av' a → ¬ Av a → ∃ u, H a = some u ∧ Mt u) : ∀ {v : List (Str × V)} {d : List (Str × D)}, DRf Av H v d → D.immF d = true → DRf Av' H v d
  | _, _, .nil, _ => .nil
  | _, _, .cons q r, i => by
    simp only [D.immF, Bool.and_eq_true] at i
    exact .cons (DR.imm h q i.1) (DRf.imm h r i.2)
end
theorem Rdv.weak {Avs Av : Addr → Prop} {H : Hp} {v : V} {d : D} (s : ∀ a, Av a → Avs a) (h : Rdv Avs Av H v d) : DR Av H v d := by
  have m : Mv Avs Av H H := ⟨fun a o n e => ⟨fun z => n (s a z), e⟩⟩
  rcases h with h | ⟨p, vs, ds, rfl, rfl, n, e, r⟩
  · exact h.mv m
  · exact r.dr n e s
theorem Rdvs.weak {Avs Av : Addr → Prop} {H : Hp} (s : ∀ a, Av a → Avs a) : ∀ {vs : List V} {ds : List D}, Rdvs Avs Av H vs ds → DRs Av H vs ds
  | _, _, .nil => .nil
  | _, _, .cons h r => .cons (h.weak s) (r.weak s)
section
variable {g : Gd} {X : Cx} {e : Expr} {es : List Expr} {wa : WPA} {w : WP} {n : Nat} {SP : List D → RQ → Prop}
theorem we_call (ha : WA g X es wa) (hc : ∀ t, PA X es t → PE X e (tCall (spOf g n SP) [] E0 t)) : WE g X e (fun st Q => wa st fun ds => ds.length = n ∧ SP ds Q) := by
  obtain ⟨t, p, q⟩ := ha
  refine ⟨_, hc t p, fun Av B gh H0 o σ st H Q Qd hg F R hw hk => ?_⟩
  refine q Av B gh H0 o σ st H _ _ hg F R hw fun ds vs H1 k1 r1 hd => ?_
  refine ⟨by simpa [r1.length] using hd.1, Avo Av B o st, ds, Qd, k1.2, (R.mono F k1).frok F, by simpa using r1, hd.2, fun fr d v H' k r hq => ?_⟩
  exact hk fr d v H' (k1.trans k) (r.back R.kp.2 k1) hq
/-- own lists are lent to the def: what it gives holds no list -/
theorem we_lend (ha : WAR g X es wa) (hc : ∀ t, PA X es t → PE X e (tCall (spOf g n SP) [] E0 t)) : WE g X e (fun st Q => wa st fun ds => ds.length = n ∧ SP ds fun _ d => d.imm = true ∧ Q false d) := by
  obtain ⟨t, p, q⟩ := ha
  refine ⟨_, hc t p, fun Av B gh H0 o σ st H Q Qd hg F R hw hk => ?_⟩
  refine q Av B gh H0 o σ st H _ _ hg F R hw fun ds vs H1 k1 r1 hd => ?_
  have R1 := R.mono F k1
  have r2 := r1.weak (fun a h => Or.inl h)
  refine ⟨by simpa [r2.length] using hd.1, fun a => Av a ∨ B a, ds, _, k1.2, ⟨fun a h => .inl (F.ta a h), fun a h => R1.tracked F (.inl h)⟩, by simpa using r2, hd.2, fun fr d v H' k r hq => ?_⟩
  have R2 := R1.mono F k
  refine hk false d v H' (k1.trans k) (.old (DR.imm (fun a z nz => ?_) r.dr hq.1)) hq.2
  rcases z with z | ⟨i, ds', e1, e2⟩
  · exact absurd z nz
  · obtain ⟨_, _, _, vs, e3, q⟩ := R2.ow i ds' e1
    rw [e2] at e3; exact ⟨vs, e3, q.mt⟩
/-! ### fields, methods -/
theorem DRf.look {Av : Addr → Prop} {H : Hp} {f : Str} : ∀ {fv : List (Str × V)} {fs : List (Str × D)}, DRf Av H fv fs → (∀ d, fs.lookup f = some d → ∃ v, fv.lookup f = some v ∧ DR Av H v d) ∧ (fs.lookup f = none → fv.lookup f = none)
  | _, _, .nil => ⟨fun d h => by simp at h, fun _ => rfl⟩
  | _, _, .cons (f := f') (v := v) (d := d') h r => by
    obtain ⟨a, b⟩ := r.look (f := f)
    simp only [List.lookup_cons]
    cases z : f == f' with
    | true => exact ⟨fun d e => ⟨v, rfl, by cases e; exact h⟩, fun e => by cases e⟩
    | false => exact ⟨fun d e => a d e, fun e => b e⟩
def mFld (f : Str) (C : Addr) : D → RQ → Prop
  | .obj C' fs, Q => C' = C ∧ ∃ d, fs.lookup f = some d ∧ Q false d
  | _, _ => False
theorem we_fld {f : Str} {C : Addr} {pos : Pos} (he : WR g X e w) (c : Cls X.K C) (n : NoAttr X.K C f) (hb : attributeBase e f X.env (eval e X.env) = eval e X.env := by rfl) : WE g X (.Attribute e f pos) (fun st Q => w st fun _ d => mFld f C d Q) := by
  obtain ⟨t, p, q⟩ := he
  refine ⟨_, pe_fld p hb, fun Av B gh H0 o σ st H Q Qd hg F R hw hk => ?_⟩
  refine q Av B gh H0 o σ st H _ _ hg F R hw fun fr d v H1 k1 r1 hd => ?_
  cases d <;> simp only [mFld] at hd
  case obj C' fs =>
    obtain ⟨rfl, d, e1, e2⟩ := hd
    have z := r1.dr (by simp)
    cases z with
    | obj na ea rf =>
      obtain ⟨v', l, r⟩ := (rf.look (f := f)).1 d e1
      exact ⟨_, _, _, _, v', rfl, ea, c, n, l, hk false d v' H1 k1 (.old r) e2⟩
/-- o.m(..) -/
theorem we_meth {o' : Expr} {m : Str} {C : Addr} (ho : WE g X o' w) (ha : WA g X es wa) (hc : ∀ ta t, PE X o' ta → PA X es t → PE X e (tMeth C m (spOf g n SP) [] E0 ta t)) :
    WE g X e (fun st Q => w st fun _ s => ∃ fs, s = .obj C fs ∧ fs.lookup m = none ∧ wa st fun ds => ds.length + 1 = n ∧ SP (s :: ds) Q) := by
  obtain ⟨ta, pa, qa⟩ := ho
  obtain ⟨t, p, q⟩ := ha
  refine ⟨_, hc ta t pa p, fun Av B gh H0 o σ st H Q Qd hg F R hw hk => ?_⟩
  refine qa Av B gh H0 o σ st H _ _ hg F R hw fun fr s v H1 k1 r1 hd => ?_
  obtain ⟨fs, rfl, l, hd⟩ := hd
  have z := r1.dr
  cases z with
  | obj na ea rf =>
    refine ⟨_, _, _, rfl, ea, (rf.look (f := m)).2 l, ?_⟩
    refine q Av B gh H0 o σ st H1 _ _ hg F (R.mono F k1) hd fun ds vs H2 k2 r2 hd2 => ?_
    have R2 := (R.mono F k1).mono F k2
    refine ⟨by simpa [r2.length] using hd2.1, Avo Av B o st, _ :: ds, Qd, k2.2, R2.frok F, .cons (r1.dr.mv (Mv.avo F k2)) (by simpa using r2), hd2.2, fun fr d v H' k r hq => ?_⟩
    exact hk fr d v H' ((k1.trans k2).trans k) (r.back R.kp.2 (k1.trans k2)) hq
/-- a new object -/
theorem we_make {C : Addr} (ha : WAR g X es wa) (sp : Sp) (m : List D → RQ → Prop) (hc : ∀ t, PA X es t → PE X e (tMake C sp [] E0 t))
    (hs : ∀ (Avs Av : Addr → Prop) (H : Hp) (vs : List V) (ds : List D) (Q : VK) (Qd : RQ), Fit g Avs Av H → Rdvs Avs Av H vs ds → m ds Qd → (∀ fr d v H', Kp g H H' → Res Avs H v fr d H' → Qd fr d → Q v H') →
      ∀ x dx, H x = none → H dx = none → dx ≠ x → sp (.ref x :: (vs ++ [])) (upd (upd H dx (.own x)) x (.ins C dx [])) (fun v H2 => v = .non ∧ Q (.ref x) H2) E0) :
    WE g X e (fun st Q => wa st fun ds => m ds Q) := by
  obtain ⟨t, p, q⟩ := ha
  refine ⟨_, hc t p, fun Av B gh H0 o σ st H Q Qd hg F R hw hk => ?_⟩
  refine q Av B gh H0 o σ st H _ _ hg F R hw fun ds vs H1 k1 r1 hd => ?_
  exact hs _ _ H1 vs ds Q Qd ((R.mono F k1).fit F) r1 hd fun fr d v H' k r hq => hk fr d v H' (k1.trans k) (r.back R.kp.2 k1) hq
/-! ### built-ins -/
abbrev SemC := List D → RQ → Prop
def SC (g : Gd) (r : List V → Hp → VK → Prop) (m : SemC) : Prop := ∀ (Avs Av : Addr → Prop) (H : Hp) (ds : List D) (vs : List V) (Q : VK) (Qd : RQ), Fit g Avs Av H → Rdvs Avs Av H vs ds → m ds Qd →
  (∀ fr d v H', Kp g H H' → Res Avs H v fr d H' → Qd fr d → Q v H') → r vs H Q
theorem we_cb {r : List V → Hp → VK → Prop} {m : SemC} (ha : WAR g X es wa) (hs : SC g r m) (hc : ∀ t, PA X es t → PE X e (tCB r t)) : WE g X e (fun st Q => wa st fun ds => m ds Q) := by
  obtain ⟨t, p, q⟩ := ha
  refine ⟨_, hc t p, fun Av B gh H0 o σ st H Q Qd hg F R hw hk => ?_⟩
  refine q Av B gh H0 o σ st H _ _ hg F R hw fun ds vs H1 k1 r1 hd => ?_
  exact hs _ _ H1 ds vs Q Qd ((R.mono F k1).fit F) r1 hd fun fr d v H' k r hq => hk fr d v H' (k1.trans k) (r.back R.kp.2 k1) hq
end
theorem Rdvs.one {Avs Av : Addr → Prop} {H : Hp} {vs : List V} {d : D} (h : Rdvs Avs Av H vs [d]) : ∃ v, vs = [v] ∧ Rdv Avs Av H v d := by
  cases h with
  | cons a r => cases r; exact ⟨_, rfl, a⟩
theorem Rdvs.two {Avs Av : Addr → Prop} {H : Hp} {vs : List V} {d e : D} (h : Rdvs Avs Av H vs [d, e]) : ∃ v u, vs = [v, u] ∧ Rdv Avs Av H v d ∧ Rdv Avs Av H u e := by
  cases h with
  | cons a r => obtain ⟨u, rfl, b⟩ := r.one; exact ⟨_, _, rfl, a, b⟩
def mLen : SemC
  | [.lst xs], Q => Q false (.int xs.length)
  | [.tup xs], Q => Q false (.int xs.length)
  | _, _ => False
def mList : SemC
  | [.lst xs], Q => Q true (.lst xs)
  | [.tup xs], Q => Q true (.lst xs)
  | _, _ => False
def mTuple : SemC
  | [.lst xs], Q => Q false (.tup xs)
  | [.tup xs], Q => Q false (.tup xs)
  | _, _ => False
def mInt1 : SemC
  | [.int i], Q => Q false (.int i)
  | [.bl b], Q => Q false (.int (if b then 1 else 0))
  | _, _ => False
def mAbs : SemC
  | [.int i], Q => Q false (.int (if i < 0 then -i else i))
  | _, _ => False
def mMin2 : SemC
  | [.int i, .int j], Q => Q false (.int (if j < i then j else i))
  | _, _ => False
def mAll : SemC := fun ds Q => ∃ bs : List Bool, ds = [.lst (bs.map D.bl)] ∧ Q false (.bl (bs.all id))
def mAny : SemC := fun ds Q => ∃ bs : List Bool, ds = [.lst (bs.map D.bl)] ∧ Q false (.bl (bs.any id))
def mSum : SemC := fun ds Q => ∃ ns : List Int, ds = [.lst (ns.map D.int)] ∧ Q false (.int ns.sum)
def mMax : SemC := fun ds Q => ∃ ns : List Int, ds = [.lst (ns.map D.int)] ∧ 0 < ns.length ∧ ∀ m, m ∈ ns → (∀ y, y ∈ ns → y ≤ m) → Q false (.int m)
def mSorted : SemC := fun ds Q => ∃ ns : List Int, ds = [.lst (ns.map D.int)] ∧ ∀ ms : List Int, ms.Perm ns → ms.Pairwise (· ≤ ·) → Q true (.lst (ms.map D.int))
def mRepr : SemC
  | [d], Q => d.shw ∧ Q false (.str d.shown)
  | _, _ => False
theorem DRs.bls {Av : Addr → Prop} {H : Hp} : ∀ {bs : List Bool} {vs : List V}, DRs Av H vs (bs.map D.bl) → vs = bs.map V.bl
  | [], _, .nil => rfl
  | b :: bs, _, .cons h r => by cases h; rw [r.bls]; rfl
theorem DRs.ints {Av : Addr → Prop} {H : Hp} : ∀ {bs : List Int} {vs : List V}, DRs Av H vs (bs.map D.int) → vs = bs.map V.int
  | [], _, .nil => rfl
  | b :: bs, _, .cons h r => by cases h; rw [r.ints]; rfl
theorem drs_ints {Av : Addr → Prop} {H : Hp} : ∀ (ns : List Int), DRs Av H (ns.map V.int) (ns.map D.int)
  | [] => .nil
  | n :: ns => .cons (.int n) (drs_ints ns)
section
variable {g : Gd} {X : Cx}
theorem sc_len : SC g (fun xs H Q => ∃ p ys, xs = [.ref p] ∧ (SqL X.K H p ys ∨ SqT X.K H p ys) ∧ Q (.int ys.length) H) mLen := by
  intro Avs Av H ds vs Q Qd F r hm hk
  unfold mLen at hm
  split at hm
  · obtain ⟨v, rfl, y⟩ := r.one
    obtain ⟨p, ws, rfl, e, q⟩ := y.lst
    exact ⟨p, ws, rfl, .inl (.inl (.inl e)), by rw [q.length]; exact hk _ _ _ H (Kp.refl F.gg) (.old (.int _)) hm⟩
  · obtain ⟨v, rfl, y⟩ := r.one
    obtain ⟨p, ws, rfl, e, q, _⟩ := y.tup
    exact ⟨p, ws, rfl, .inr (.inl (.inl e)), by rw [q.length]; exact hk _ _ _ H (Kp.refl F.gg) (.old (.int _)) hm⟩
  · exact hm.elim
theorem sc_list : SC g (fun xs H Q => ∃ p ys, xs = [.ref p] ∧ (SqL X.K H p ys ∨ SqT X.K H p ys) ∧ ∀ l, H l = none → Q (.ref l) (upd H l (.lst ys))) mList := by
  intro Avs Av H ds vs Q Qd F r hm hk
  unfold mList at hm
  split at hm
  · obtain ⟨v, rfl, y⟩ := r.one
    obtain ⟨p, ws, rfl, e, q⟩ := y.lst
    exact ⟨p, ws, rfl, .inl (.inl (.inl e)), fun l hl => let ⟨k, z⟩ := F.lst q hl; hk _ _ _ _ k z hm⟩
  · obtain ⟨v, rfl, y⟩ := r.one
    obtain ⟨p, ws, rfl, e, q, _⟩ := y.tup
    exact ⟨p, ws, rfl, .inr (.inl (.inl e)), fun l hl => let ⟨k, z⟩ := F.lst q hl; hk _ _ _ _ k z hm⟩
  · exact hm.elim
theorem sc_tuple : SC g (fun xs H Q => ∃ p ys, xs = [.ref p] ∧ ((SqL X.K H p ys ∧ ∀ l, H l = none → Q (.ref l) (upd H l (.tup ys))) ∨ (SqT X.K H p ys ∧ Q (.ref p) H))) mTuple := by
  intro Avs Av H ds vs Q Qd F r hm hk
  unfold mTuple at hm
  split at hm
  · obtain ⟨v, rfl, y⟩ := r.one
    obtain ⟨p, ws, rfl, e, q⟩ := y.lst
    exact ⟨p, ws, rfl, .inl ⟨.inl (.inl e), fun l hl => let ⟨k, z⟩ := F.tup q hl; hk _ _ _ _ k z hm⟩⟩
  · obtain ⟨v, rfl, y⟩ := r.one
    obtain ⟨p, ws, rfl, e, q, z⟩ := y.tup
    exact ⟨p, ws, rfl, .inr ⟨.inl (.inl e), hk _ _ _ _ (Kp.refl F.gg) (.old z) hm⟩⟩
  · exact hm.elim
theorem sc_int1 : SC g (fun xs H Q => (∃ i, xs = [.int i] ∧ Q (.int i) H) ∨ ∃ k, xs = [.bl k] ∧ Q (.int (if k then 1 else 0)) H) mInt1 := by
  intro Avs Av H ds vs Q Qd F r hm hk
  unfold mInt1 at hm
  split at hm
  · obtain ⟨v, rfl, y⟩ := r.one
    cases y.int
    exact .inl ⟨_, rfl, hk _ _ _ H (Kp.refl F.gg) (.old (.int _)) hm⟩
  · obtain ⟨v, rfl, y⟩ := r.one
    cases y.bl
    exact .inr ⟨_, rfl, hk _ _ _ H (Kp.refl F.gg) (.old (.int _)) hm⟩
  · exact hm.elim
theorem sc_abs : SC g (fun xs H Q => ∃ i, xs = [.int i] ∧ Q (.int (if i < 0 then -i else i)) H) mAbs := by
  intro Avs Av H ds vs Q Qd F r hm hk
  unfold mAbs at hm
  split at hm
  · obtain ⟨v, rfl, y⟩ := r.one
    cases y.int
    exact ⟨_, rfl, hk _ _ _ H (Kp.refl F.gg) (.old (.int _)) hm⟩
  · exact hm.elim
theorem sc_min2 : SC g (fun xs H Q => ∃ i j, xs = [.int i, .int j] ∧ Q (.int (if j < i then j else i)) H) mMin2 := by
  intro Avs Av H ds vs Q Qd F r hm hk
  unfold mMin2 at hm
  split at hm
  · obtain ⟨v, u, rfl, y, y2⟩ := r.two
    cases y.int; cases y2.int
    exact ⟨_, _, rfl, hk _ _ _ H (Kp.refl F.gg) (.old (.int _)) hm⟩
  · exact hm.elim
theorem sc_all : SC g (rAll X.K) mAll := by
  rintro Avs Av H ds vs Q Qd F r ⟨bs, rfl, hm⟩ hk
  obtain ⟨v, rfl, y⟩ := r.one
  obtain ⟨p, ws, rfl, e, q⟩ := y.lst
  cases q.bls
  exact ⟨p, bs, rfl, .inl (.inl e), hk _ _ _ H (Kp.refl F.gg) (.old (.bl _)) hm⟩
theorem sc_any : SC g (rAny X.K) mAny := by
  rintro Avs Av H ds vs Q Qd F r ⟨bs, rfl, hm⟩ hk
  obtain ⟨v, rfl, y⟩ := r.one
  obtain ⟨p, ws, rfl, e, q⟩ := y.lst
  cases q.bls
  exact ⟨p, bs, rfl, .inl (.inl e), hk _ _ _ H (Kp.refl F.gg) (.old (.bl _)) hm⟩
theorem sc_sum : SC g (rSum X.K) mSum := by
  rintro Avs Av H ds vs Q Qd F r ⟨bs, rfl, hm⟩ hk
  obtain ⟨v, rfl, y⟩ := r.one
  obtain ⟨p, ws, rfl, e, q⟩ := y.lst
  cases q.ints
  exact ⟨p, bs, rfl, .inl (.inl e), hk _ _ _ H (Kp.refl F.gg) (.old (.int _)) hm⟩
theorem sc_max : SC g (rMax X.K) mMax := by
  rintro Avs Av H ds vs Q Qd F r ⟨bs, rfl, h0, hm⟩ hk
  obtain ⟨v, rfl, y⟩ := r.one
  obtain ⟨p, ws, rfl, e, q⟩ := y.lst
  cases q.ints
  exact ⟨p, bs, rfl, .inl (.inl e), h0, fun m h1 h2 => hk _ _ _ H (Kp.refl F.gg) (.old (.int _)) (hm m h1 h2)⟩
theorem sc_sorted : SC g (rSortedI X.K) mSorted := by
  rintro Avs Av H ds vs Q Qd F r ⟨bs, rfl, hm⟩ hk
  obtain ⟨v, rfl, y⟩ := r.one
  obtain ⟨p, ws, rfl, e, q⟩ := y.lst
  cases q.ints
  exact ⟨p, bs, rfl, .inl (.inl e), fun ns' p' h1 h2 hp => let ⟨k, z⟩ := F.lst (drs_ints ns') hp; hk _ _ _ _ k z (hm ns' h1 h2)⟩
theorem sc_repr : SC g (rRepr X.K) mRepr := by
  intro Avs Av H ds vs Q Qd F r hm hk
  unfold mRepr at hm
  split at hm
  · obtain ⟨v, rfl, y⟩ := r.one
    obtain ⟨⟨a, b, c⟩, hm⟩ := hm
    obtain ⟨e1, e2, e3, e4, e5, e6⟩ := tiny_lay _ a
    exact ⟨v, _, rfl, y.dp a, e3, e4, by rw [e6]; exact c, shw_len ⟨a, b, c⟩, hk _ _ _ H (Kp.refl F.gg) (.old (.str _)) hm⟩
  · exact hm.elim
end
end DW
namespace DW
open PySem PySem.Spec PyProof.Rows L2

/-! ### tests -/
abbrev WPT := Sx → (Bool → Prop) → Prop
def WT (g : Gd) (X : Cx) (e : Expr) (w : WPT) : Prop := ∃ t, PT X e t ∧ ∀ Av B gh H0 o σ st H Q Qd, g.G H0 → FrOk g Av H0 → Rel g Av B gh H0 o σ st H → w st Qd →
  (∀ b H', Kp g H H' → Qd b → Q b H') → t σ H Q
/-- .. within and, or -/
def WW (g : Gd) (X : Cx) (e : Expr) (w : WPT) : Prop := ∃ t, PW X e t ∧ ∀ Av B gh H0 o σ st H Q Qd, g.G H0 → FrOk g Av H0 → Rel g Av B gh H0 o σ st H → w st Qd →
  (∀ b H', Kp g H H' → Qd b → Q b H') → t σ H Q
section
variable {g : Gd} {X : Cx} {e a b : Expr} {w wa wb wc : WP} {u v : WPT} {pos : Pos} {rest : List Expr}
theorem wt_val (h : WE g X e w) (he : ∀ whole, isTrue e X.env whole = (do let v ← whole; standAt e.pos; holding [v] (truthy v)) := by intro _; rfl) : WT g X e (fun st Q => w st fun _ d => ∃ c, d = .bl c ∧ Q c) := by
  obtain ⟨t, p, q⟩ := h
  refine ⟨_, pt_val p he, fun Av B gh H0 o σ st H Q Qd hg F R hw hk => ?_⟩
  refine q Av B gh H0 o σ st H _ _ hg F R hw fun fr d v H1 k1 r1 hd => ?_
  obtain ⟨c, rfl, hd⟩ := hd
  have ev : v = .bl c := by cases r1.dr; rfl
  exact ⟨c, ev, hk c H1 k1 hd⟩
/-- a comparison -/
theorem wt_cmp {op : CmpOp} {m : Sem2} {r : R2} (ho : OpR X (compareOp op) r) (hs : S2 g r m) (ha : WR g X a wa) (hb : WR g X b wb) (hm : behindInMarks op b = false) : WT g X (.Compare a [op] [b] pos) (fun st Q => wa st fun _ x => wb st fun _ y => m x y fun _ z => ∃ c, z = .bl c ∧ Q c) := by
  obtain ⟨t, p, q⟩ := ha
  obtain ⟨t2, p2, q2⟩ := hb
  refine ⟨_, pt_cmpR ho p p2 hm, fun Av B gh H0 o σ st H Q Qd hg F R hw hk => ?_⟩
  refine q Av B gh H0 o σ st H _ _ hg F R hw fun fr d v H1 k1 r1 hw1 => ?_
  refine q2 Av B gh H0 o σ st H1 _ _ hg F (R.mono F k1) hw1 fun fr2 d2 v2 H2 k2 r2 hd => ?_
  refine hs _ _ H2 d d2 v v2 _ _ (((R.mono F k1).mono F k2).fit F) (r1.mono (fun a h => Avo.ta F h) (fun a h => .inl (F.ta a h)) k2) r2 hd fun fr d v H' k3 r3 hq => ?_
  obtain ⟨c, rfl, hq⟩ := hq
  have ev : v = .bl c := by cases r3.dr; rfl
  exact ⟨c, ev, hk c H' ((k1.trans k2).trans k3) hq⟩
theorem ww_t (h : WW g X e u) : WT g X e u := let ⟨t, p, q⟩ := h; ⟨t, p.pt, q⟩
theorem wt_not (h : WT g X a u) : WT g X (.UnaryOp .Not a pos) (fun st Q => u st fun c => Q (!c)) := by
  obtain ⟨t, p, q⟩ := h
  refine ⟨_, pt_not p, fun Av B gh H0 o σ st H Q Qd hg F R hw hk => ?_⟩
  exact q Av B gh H0 o σ st H _ _ hg F R hw fun c H1 k1 hd => hk (!c) H1 k1 hd
theorem ww_and1 (h : WT g X a u) : WW g X (.BoolOp .And [a] pos) u := let ⟨t, p, q⟩ := h; ⟨t, pw_and1 p, q⟩
theorem ww_or1 (h : WT g X a u) : WW g X (.BoolOp .Or [a] pos) u := let ⟨t, p, q⟩ := h; ⟨t, pw_or1 p, q⟩
theorem ww_and (h : WT g X a u) (hr : WW g X (.BoolOp .And (b :: rest) pos) v) : WW g X (.BoolOp .And (a :: b :: rest) pos) (fun st Q => u st fun c => if c = true then v st Q else Q false) := by
  obtain ⟨t, p, q⟩ := h
  obtain ⟨t2, p2, q2⟩ := hr
  refine ⟨_, pw_and p p2, fun Av B gh H0 o σ st H Q Qd hg F R hw hk => ?_⟩
  refine q Av B gh H0 o σ st H _ _ hg F R hw fun c H1 k1 hd => ?_
  cases c with
  | true => exact q2 Av B gh H0 o σ st H1 _ _ hg F (R.mono F k1) hd fun c H2 k2 hd2 => hk c H2 (k1.trans k2) hd2
  | false => exact hk false H1 k1 hd
theorem ww_or (h : WT g X a u) (hr : WW g X (.BoolOp .Or (b :: rest) pos) v) : WW g X (.BoolOp .Or (a :: b :: rest) pos) (fun st Q => u st fun c => if c = true then Q true else v st Q) := by
  obtain ⟨t, p, q⟩ := h
  obtain ⟨t2, p2, q2⟩ := hr
  refine ⟨_, pw_or p p2, fun Av B gh H0 o σ st H Q Qd hg F R hw hk => ?_⟩
  refine q Av B gh H0 o σ st H _ _ hg F R hw fun c H1 k1 hd => ?_
  cases c with
  | false => exact q2 Av B gh H0 o σ st H1 _ _ hg F (R.mono F k1) hd fun c H2 k2 hd2 => hk c H2 (k1.trans k2) hd2
  | true => exact hk true H1 k1 hd
/-! .. as values -/
theorem we_one {op : BoolOp} (h : WE g X a w) : WE g X (.BoolOp op [a] pos) w := let ⟨t, p, q⟩ := h; ⟨t, pe_one p, q⟩
theorem we_and (h : WE g X a wa) (hr : WE g X (.BoolOp .And (b :: rest) pos) wb) : WE g X (.BoolOp .And (a :: b :: rest) pos) (fun st Q => wa st fun _ x => ∃ c, x = .bl c ∧ if c = true then wb st Q else Q false (.bl false)) := by
  obtain ⟨t, p, q⟩ := h
  obtain ⟨t2, p2, q2⟩ := hr
  refine ⟨_, pe_and p p2, fun Av B gh H0 o σ st H Q Qd hg F R hw hk => ?_⟩
  refine q Av B gh H0 o σ st H _ _ hg F R hw fun fr d v H1 k1 r1 hd => ?_
  obtain ⟨c, rfl, hd⟩ := hd
  have ev : v = .bl c := by cases r1.dr; rfl
  refine ⟨c, ev, ?_⟩
  cases c with
  | true => exact q2 Av B gh H0 o σ st H1 _ _ hg F (R.mono F k1) hd fun fr d v H2 k2 r2 hd2 => hk fr d v H2 (k1.trans k2) (r2.back R.kp.2 k1) hd2
  | false => exact hk false _ _ H1 k1 (.old (.bl false)) hd
theorem we_or (h : WE g X a wa) (hr : WE g X (.BoolOp .Or (b :: rest) pos) wb) : WE g X (.BoolOp .Or (a :: b :: rest) pos) (fun st Q => wa st fun _ x => ∃ c, x = .bl c ∧ if c = true then Q false (.bl true) else wb st Q) := by
  obtain ⟨t, p, q⟩ := h
  obtain ⟨t2, p2, q2⟩ := hr
  refine ⟨_, pe_or p p2, fun Av B gh H0 o σ st H Q Qd hg F R hw hk => ?_⟩
  refine q Av B gh H0 o σ st H _ _ hg F R hw fun fr d v H1 k1 r1 hd => ?_
  obtain ⟨c, rfl, hd⟩ := hd
  have ev : v = .bl c := by cases r1.dr; rfl
  refine ⟨c, ev, ?_⟩
  cases c with
  | false => exact q2 Av B gh H0 o σ st H1 _ _ hg F (R.mono F k1) hd fun fr d v H2 k2 r2 hd2 => hk fr d v H2 (k1.trans k2) (r2.back R.kp.2 k1) hd2
  | true => exact hk false _ _ H1 k1 (.old (.bl true)) hd
theorem we_not (h : WE g X a wa) : WE g X (.UnaryOp .Not a pos) (fun st Q => wa st fun _ x => ∃ c, x = .bl c ∧ Q false (.bl (!c))) := by
  obtain ⟨t, p, q⟩ := h
  refine ⟨_, pe_not p, fun Av B gh H0 o σ st H Q Qd hg F R hw hk => ?_⟩
  refine q Av B gh H0 o σ st H _ _ hg F R hw fun fr d v H1 k1 r1 hd => ?_
  obtain ⟨c, rfl, hd⟩ := hd
  have ev : v = .bl c := by cases r1.dr; rfl
  exact ⟨c, ev, hk false _ _ H1 k1 (.old (.bl _)) hd⟩
theorem we_ifE {c : Expr} (h : WT g X c u) (ha : WE g X a wa) (hb : WE g X b wb) : WE g X (.IfExp c a b pos) (fun st Q => u st fun k => if k = true then wa st Q else wb st Q) := by
  obtain ⟨t, p, q⟩ := h
  obtain ⟨t1, p1, q1⟩ := ha
  obtain ⟨t2, p2, q2⟩ := hb
  refine ⟨_, pe_ifExp p p1 p2, fun Av B gh H0 o σ st H Q Qd hg F R hw hk => ?_⟩
  refine q Av B gh H0 o σ st H _ _ hg F R hw fun c H1 k1 hd => ?_
  cases c with
  | true => exact q1 Av B gh H0 o σ st H1 _ _ hg F (R.mono F k1) hd fun fr d v H2 k2 r2 hd2 => hk fr d v H2 (k1.trans k2) (r2.back R.kp.2 k1) hd2
  | false => exact q2 Av B gh H0 o σ st H1 _ _ hg F (R.mono F k1) hd fun fr d v H2 k2 r2 hd2 => hk fr d v H2 (k1.trans k2) (r2.back R.kp.2 k1) hd2
end

/-! ### slices -/
abbrev WPO := Sx → (Option Int → Prop) → Prop
def WO (g : Gd) (X : Cx) (e : Option Expr) (w : WPO) : Prop := ∃ t, PO X e t ∧ ∀ Av B gh H0 o σ st H Q Qd, g.G H0 → FrOk g Av H0 → Rel g Av B gh H0 o σ st H → w st Qd →
  (∀ b H', Kp g H H' → Qd b → Q b H') → t σ H Q
def cutD (xs : List D) (lo hi : Option Int) : List D := (xs.drop (HT.sIx xs.length 0 lo)).take (HT.sIx xs.length xs.length hi - HT.sIx xs.length 0 lo)
theorem DRs.cut {Av : Addr → Prop} {H : Hp} {vs : List V} {ds : List D} (r : DRs Av H vs ds) (lo hi : Option Int) : DRs Av H (cutV vs lo hi) (cutD ds lo hi) := by
  unfold cutV cutD
  rw [r.length]
  exact (r.drop _).take _
def mSl : D → Option Int → Option Int → RQ → Prop
  | .lst xs, lo, hi, Q => Q true (.lst (cutD xs lo hi))
  | .tup xs, lo, hi, Q => Q false (.tup (cutD xs lo hi))
  | _, _, _, _ => False
section
variable {g : Gd} {X : Cx} {e a : Expr} {w wa : WP} {lo hi : Option Expr} {wl wh : WPO} {pos p2 : Pos}
theorem wo_none : WO g X none (fun _ Q => Q none) := ⟨_, po_none, fun Av B gh H0 o σ st H Q Qd hg F R hw hk => hk none H (Kp.refl R.kp.2) hw⟩
theorem wo_some (h : WE g X e w) : WO g X (some e) (fun st Q => w st fun _ d => ∃ i, d = .int i ∧ Q (some i)) := by
  obtain ⟨t, p, q⟩ := h
  refine ⟨_, po_some p, fun Av B gh H0 o σ st H Q Qd hg F R hw hk => ?_⟩
  refine q Av B gh H0 o σ st H _ _ hg F R hw fun fr d v H1 k1 r1 hd => ?_
  obtain ⟨c, rfl, hd⟩ := hd
  have ev : v = .int c := by cases r1.dr; rfl
  exact ⟨c, ev, hk _ H1 k1 hd⟩
theorem we_slice (ha : WR g X a wa) (hl : WO g X lo wl) (hh : WO g X hi wh) : WE g X (.Subscript a (.Slice lo hi none p2) pos) (fun st Q => wa st fun _ x => wl st fun l => wh st fun h => mSl x l h Q) := by
  obtain ⟨t, p, q⟩ := ha
  obtain ⟨t1, p1, q1⟩ := hl
  obtain ⟨t2, p2, q2⟩ := hh
  refine ⟨_, pe_slice (sl_list.or sl_tupA) p p1 p2, fun Av B gh H0 o σ st H Q Qd hg F R hw hk => ?_⟩
  have T1 : ∀ a, g.T a → Avo Av B o st a := fun a h => Avo.ta F h
  have T2 : ∀ a, g.T a → (Av a ∨ B a) := fun a h => .inl (F.ta a h)
  refine q Av B gh H0 o σ st H _ _ hg F R hw fun fr d v H1 k1 r1 hw1 => ?_
  refine q1 Av B gh H0 o σ st H1 _ _ hg F (R.mono F k1) hw1 fun l H2 k2 hw2 => ?_
  refine q2 Av B gh H0 o σ st H2 _ _ hg F ((R.mono F k1).mono F k2) hw2 fun h H3 k3 hm => ?_
  have r3 := r1.mono T1 T2 (k2.trans k3)
  have F3 := (R.mono F ((k1.trans k2).trans k3)).fit F
  cases d <;> simp only [mSl] at hm
  case lst xs =>
    obtain ⟨p, vs, rfl, e1, rr⟩ := r3.lst
    refine .inl ⟨p, vs, rfl, .inl (.inl e1), fun u hu => ?_⟩
    obtain ⟨k, z⟩ := F3.lst (rr.cut l h) hu
    exact hk true _ _ _ (((k1.trans k2).trans k3).trans k) (z.back R.kp.2 ((k1.trans k2).trans k3)) hm
  case tup xs =>
    obtain ⟨p, vs, rfl, e1, rr, dd⟩ := r3.tup
    refine .inr ⟨p, vs, rfl, .inl (.inl e1), fun hz => ?_, fun hz u hu => ?_⟩
    · have e : cutD xs l h = xs := by
        unfold cutD
        rw [← rr.length, hz.1, hz.2, List.drop_zero, Nat.sub_zero, rr.length, List.take_length]
      rw [e] at hm
      exact hk false _ _ _ ((k1.trans k2).trans k3) (.old dd) hm
    · obtain ⟨k, z⟩ := F3.tup (rr.cut l h) hu
      exact hk false _ _ _ (((k1.trans k2).trans k3).trans k) (z.back R.kp.2 ((k1.trans k2).trans k3)) hm
end

/-! ### list(range), tuple(range) -/
def rgD (a b : Int) : List D := (List.range (b - a).toNat).map fun i => D.int (a + (i : Nat))
theorem drs_rg {Av : Addr → Prop} {H : Hp} (a b : Int) : DRs Av H (rgV a b) (rgD a b) := by
  have e1 : rgV a b = ((List.range (b - a).toNat).map fun i : Nat => a + (i : Int)).map V.int := by unfold rgV; rw [List.map_map]; rfl
  have e2 : rgD a b = ((List.range (b - a).toNat).map fun i : Nat => a + (i : Int)).map D.int := by unfold rgD; rw [List.map_map]; rfl
  rw [e1, e2]
  exact drs_ints _
section
variable {g : Gd} {X : Cx} {a b : Expr} {wa wb : WP} {p pos q pos2 : Pos}
theorem we_listRg1 (ha : WE g X a wa) (hc : X.calm = true) (hg : Gl X "list") (hm : X.mg "list" = none) (hg2 : Gl X "range") (hm2 : X.mg "range" = none)
    (na : starEach [a] X.env = (false, eval a X.env) :: starEach [] X.env := by rfl) (nb : starEach [.Call (.Name "range" q) [a] [] pos2] X.env = (false, eval (.Call (.Name "range" q) [a] [] pos2) X.env) :: starEach [] X.env := by rfl) :
    WE g X (.Call (.Name "list" p) [.Call (.Name "range" q) [a] [] pos2] [] pos) (fun st Q => wa st fun _ d => ∃ n, d = .int n ∧ RgOk 0 n ∧ Q true (.lst (rgD 0 n))) := by
  obtain ⟨t, p1, q1⟩ := ha
  refine ⟨_, pe_listRg hc hg hm (prg_1 hg2 hm2 p1 na) nb, fun Av B gh H0 o σ st H Q Qd hg F R hw hk => ?_⟩
  refine q1 Av B gh H0 o σ st H _ _ hg F R hw fun fr d v H1 k1 r1 hd => ?_
  obtain ⟨n, rfl, ok, hd⟩ := hd
  have ev : v = .int n := by cases r1.dr; rfl
  refine ⟨n, ev, ok, fun u hu => ?_⟩
  obtain ⟨k, z⟩ := ((R.mono F k1).fit F).lst (drs_rg 0 n) hu
  exact hk true _ _ _ (k1.trans k) (z.back R.kp.2 k1) hd
theorem we_tupRg1 (ha : WE g X a wa) (hc : X.calm = true) (hg : Gl X "tuple") (hm : X.mg "tuple" = none) (hg2 : Gl X "range") (hm2 : X.mg "range" = none)
    (na : starEach [a] X.env = (false, eval a X.env) :: starEach [] X.env := by rfl) (nb : starEach [.Call (.Name "range" q) [a] [] pos2] X.env = (false, eval (.Call (.Name "range" q) [a] [] pos2) X.env) :: starEach [] X.env := by rfl) :
    WE g X (.Call (.Name "tuple" p) [.Call (.Name "range" q) [a] [] pos2] [] pos) (fun st Q => wa st fun _ d => ∃ n, d = .int n ∧ RgOk 0 n ∧ Q false (.tup (rgD 0 n))) := by
  obtain ⟨t, p1, q1⟩ := ha
  refine ⟨_, pe_tupRg hc hg hm (prg_1 hg2 hm2 p1 na) nb, fun Av B gh H0 o σ st H Q Qd hg F R hw hk => ?_⟩
  refine q1 Av B gh H0 o σ st H _ _ hg F R hw fun fr d v H1 k1 r1 hd => ?_
  obtain ⟨n, rfl, ok, hd⟩ := hd
  have ev : v = .int n := by cases r1.dr; rfl
  refine ⟨n, ev, ok, fun u hu => ?_⟩
  obtain ⟨k, z⟩ := ((R.mono F k1).fit F).tup (drs_rg 0 n) hu
  exact hk false _ _ _ (k1.trans k) (z.back R.kp.2 k1) hd
end
end DW
namespace DW
open PySem PySem.Spec PyProof.Rows L2

section
variable {g : Gd} {Av B : Addr → Prop} {gh : V → D → Prop} {H0 H H1 : Hp} {o : Nat → Addr} {σ : L2.St} {st : Sx}
theorem set_own {st : Sx} {i j : Nat} {s : Sl} {ds : Ct} (h : (st.set i s)[j]? = some (.ow ds)) : (j = i ∧ s = .ow ds ∧ i < st.length) ∨ (j ≠ i ∧ st[j]? = some (.ow ds)) := by
  by_cases e : j = i
  · subst e
    by_cases hl : j < st.length
    · rw [List.getElem?_set_self hl] at h
      exact .inl ⟨rfl, Option.some.inj h, hl⟩
    · rw [List.getElem?_eq_none (by simpa using hl)] at h; cases h
  · rw [List.getElem?_set_ne (Ne.symm e)] at h
    exact .inr ⟨e, h⟩
theorem set_val {st : Sx} {i j : Nat} {s : Sl} {d : D} (h : (st.set i s)[j]? = some (.val d)) : (j = i ∧ s = .val d ∧ i < st.length) ∨ (j ≠ i ∧ st[j]? = some (.val d)) := by
  by_cases e : j = i
  · subst e
    by_cases hl : j < st.length
    · rw [List.getElem?_set_self hl] at h
      exact .inl ⟨rfl, Option.some.inj h, hl⟩
    · rw [List.getElem?_eq_none (by simpa using hl)] at h; cases h
  · rw [List.getElem?_set_ne (Ne.symm e)] at h
    exact .inr ⟨e, h⟩
/-- a value is stored -/
theorem Rel.setVal (R : Rel g Av B gh H0 o σ st H) {v : V} {d : D} (i : Nat) (r : DR (Avo Av B o st) H v d) : Rel g Av B gh H0 o (σ.set i (some v)) (st.set i (.val d)) H := by
  have sub : ∀ a, Avo Av B o (st.set i (.val d)) a → Avo Av B o st a := by
    rintro a (h | ⟨j, ds, e1, e2⟩)
    · exact .inl h
    · rcases set_own e1 with ⟨_, z, _⟩ | ⟨_, z⟩
      · cases z
      · exact .inr ⟨j, ds, z, e2⟩
  have m : Mv (Avo Av B o st) (Avo Av B o (st.set i (.val d))) H H := ⟨fun a u n e => ⟨fun z => n (sub a z), e⟩⟩
  refine ⟨by simp [R.len], R.kp, fun j e h => ?_, fun j ds h => ?_, fun j k ds es h1 h2 he => ?_, R.bt, fun v d h => (R.gho v d h).mv m⟩
  · rcases set_val h with ⟨rfl, z, hl⟩ | ⟨ne, z⟩
    · cases z
      exact ⟨v, by rw [List.getElem?_set_self (by rw [R.len]; exact hl)], r.mv m⟩
    · obtain ⟨v', e1, r'⟩ := R.val j e z
      exact ⟨v', by rw [List.getElem?_set_ne (Ne.symm ne)]; exact e1, r'.mv m⟩
  · rcases set_own h with ⟨_, z, _⟩ | ⟨ne, z⟩
    · cases z
    · obtain ⟨e1, e2, nb, vs, e3, r'⟩ := R.ow j ds z
      exact ⟨by rw [List.getElem?_set_ne (Ne.symm ne)]; exact e1, e2, nb, vs, e3, r'.mv m⟩
  · rcases set_own h1 with ⟨_, z, _⟩ | ⟨_, z⟩
    · cases z
    · rcases set_own h2 with ⟨_, z2, _⟩ | ⟨_, z2⟩
      · cases z2
      · exact R.inj j k ds es z z2 he
/-- a slot is forgotten -/
theorem Rel.setUn (R : Rel g Av B gh H0 o σ st H) (i : Nat) (x : Option V) : Rel g Av B gh H0 o (σ.set i x) (st.set i .un) H := by
  have sub : ∀ a, Avo Av B o (st.set i .un) a → Avo Av B o st a := by
    rintro a (h | ⟨j, ds, e1, e2⟩)
    · exact .inl h
    · rcases set_own e1 with ⟨_, z, _⟩ | ⟨_, z⟩
      · cases z
      · exact .inr ⟨j, ds, z, e2⟩
  have m : Mv (Avo Av B o st) (Avo Av B o (st.set i .un)) H H := ⟨fun a u n e => ⟨fun z => n (sub a z), e⟩⟩
  refine ⟨by simp [R.len], R.kp, fun j e h => ?_, fun j ds h => ?_, fun j k ds es h1 h2 he => ?_, R.bt, fun v d h => (R.gho v d h).mv m⟩
  · rcases set_val h with ⟨rfl, z, hl⟩ | ⟨ne, z⟩
    · cases z
    · obtain ⟨v', e1, r'⟩ := R.val j e z
      exact ⟨v', by rw [List.getElem?_set_ne (Ne.symm ne)]; exact e1, r'.mv m⟩
  · rcases set_own h with ⟨_, z, _⟩ | ⟨ne, z⟩
    · cases z
    · obtain ⟨e1, e2, nb, vs, e3, r'⟩ := R.ow j ds z
      exact ⟨by rw [List.getElem?_set_ne (Ne.symm ne)]; exact e1, e2, nb, vs, e3, r'.mv m⟩
  · rcases set_own h1 with ⟨_, z, _⟩ | ⟨_, z⟩
    · cases z
    · rcases set_own h2 with ⟨_, z2, _⟩ | ⟨_, z2⟩
      · cases z2
      · exact R.inj j k ds es z z2 he
/-- a new object is set apart -/
theorem Rel.addB (F : FrOk g Av H0) (hg : g.G H0) (R : Rel g Av B gh H0 o σ st H) (k : Kp g H H1) {p : Addr} (h0 : H p = none) (h1 : H1 p ≠ none) : Rel g Av (fun a => B a ∨ a = p) gh H0 o σ st H1 := by
  have m : Mv (Avo Av B o st) (Avo Av (fun a => B a ∨ a = p) o st) H H1 := by
    refine ⟨fun a u n e => ?_⟩
    have ne : a ≠ p := ne_of_none e h0
    refine ⟨fun z => ?_, k.1 a u e fun w => n (Avo.ta F (g.wt a w))⟩
    rcases z with (z | z | z) | z
    · exact n (.inl (.inl z))
    · exact n (.inl (.inr z))
    · exact ne z
    · exact n (.inr z)
  have np : ∀ {i : Nat} {ds : Ct}, st[i]? = some (.ow ds) → o i ≠ p := fun {i ds} h => by
    obtain ⟨_, _, _, vs, e, _⟩ := R.ow i ds h
    exact ne_of_none e h0
  refine ⟨R.len, R.kp.trans k, fun i d e => ?_, fun i ds e => ?_, R.inj, fun a h => ?_, fun v d h => (R.gho v d h).mv m⟩
  · obtain ⟨v, e1, r⟩ := R.val i d e
    exact ⟨v, e1, r.mv m⟩
  · obtain ⟨e1, e2, nb, vs, e3, r⟩ := R.ow i ds e
    exact ⟨e1, e2, fun z => z.elim nb (np e), vs, k.1 _ _ e3 fun w => R.ownT F e (g.wt _ w), r.mv m⟩
  · rcases h with h | rfl
    · exact ⟨Kp.tracked k.2 k (R.bt a h).1, (R.bt a h).2⟩
    · exact ⟨h1, fun z => g.tr H R.kp.2 _ z h0⟩
/-- .. and becomes a slot's own -/
theorem Rel.setOw (R : Rel g Av (fun a => B a ∨ a = p) gh H0 o σ st H) (nB : ¬ B p) (h0 : H0 p = none) {vs : HO} {ds : Ct} (hp : H p = some vs) (r : CR (Avo Av (fun a => B a ∨ a = p) o st) H ds vs) (i : Nat) :
    ∃ o', Rel g Av B gh H0 o' (σ.set i (some (.ref p))) (st.set i (.ow ds)) H := by
  have np : ∀ {j : Nat} {es : Ct}, st[j]? = some (.ow es) → o j ≠ p := fun {j es} h e => by
    obtain ⟨_, _, nb, _⟩ := R.ow j es h
    exact nb (.inr e)
  refine ⟨fun j => if j = i then p else o j, ?_⟩
  have sub : ∀ a, Avo Av B (fun j => if j = i then p else o j) (st.set i (.ow ds)) a → Avo Av (fun a => B a ∨ a = p) o st a := by
    rintro a (h | ⟨j, es, e1, e2⟩)
    · exact .inl (h.imp id .inl)
    · rcases set_own e1 with ⟨rfl, z, _⟩ | ⟨ne, z⟩
      · simp only [if_true] at e2
        exact .inl (.inr (.inr e2.symm))
      · simp only [if_neg ne] at e2
        exact .inr ⟨j, es, z, e2⟩
  have m : Mv (Avo Av (fun a => B a ∨ a = p) o st) (Avo Av B (fun j => if j = i then p else o j) (st.set i (.ow ds))) H H := ⟨fun a u n e => ⟨fun z => n (sub a z), e⟩⟩
  refine ⟨by simp [R.len], R.kp, fun j e h => ?_, fun j es h => ?_, fun j k es fs h1 h2 he => ?_, fun a h => R.bt a (.inl h), fun v d h => (R.gho v d h).mv m⟩
  · rcases set_val h with ⟨rfl, z, hl⟩ | ⟨ne, z⟩
    · cases z
    · obtain ⟨v', e1, r'⟩ := R.val j e z
      exact ⟨v', by rw [List.getElem?_set_ne (Ne.symm ne)]; exact e1, r'.mv m⟩
  · rcases set_own h with ⟨rfl, z, hl⟩ | ⟨ne, z⟩
    · cases z
      simp only [if_true]
      exact ⟨by rw [List.getElem?_set_self (by rw [R.len]; exact hl)], h0, nB, vs, hp, r.mv m⟩
    · obtain ⟨e1, e2, nb, vs, e3, r'⟩ := R.ow j es z
      simp only [if_neg ne]
      exact ⟨by rw [List.getElem?_set_ne (Ne.symm ne)]; exact e1, e2, fun z => nb (.inl z), vs, e3, r'.mv m⟩
  · rcases set_own h1 with ⟨rfl, z, _⟩ | ⟨n1, z⟩
    · rcases set_own h2 with ⟨rfl, z2, _⟩ | ⟨n2, z2⟩
      · rfl
      · simp only [if_true, if_neg n2] at he
        exact absurd he.symm (np z2)
    · rcases set_own h2 with ⟨rfl, z2, _⟩ | ⟨n2, z2⟩
      · simp only [if_true, if_neg n1] at he
        exact absurd he (np z)
      · simp only [if_neg n1, if_neg n2] at he
        exact R.inj j k es fs z z2 he
/-- a slot's own list is changed -/
theorem Rel.updOw (F : FrOk g Av H0) (R : Rel g Av B gh H0 o σ st H) {i : Nat} {ds ds' : Ct} {vs' : HO} (h : st[i]? = some (.ow ds)) (r : CR (Avo Av B o st) H ds' vs') :
    Rel g Av B gh H0 o σ (st.set i (.ow ds')) (upd H (o i) vs') := by
  obtain ⟨q1, q2, q3, vs, q4, q5⟩ := R.ow i ds h
  have hl : i < st.length := (List.getElem?_eq_some_iff.mp h).1
  have nT : ¬ g.T (o i) := R.ownT F h
  have same : ∀ a, Avo Av B o (st.set i (.ow ds')) a ↔ Avo Av B o st a := by
    intro a
    constructor
    · rintro (z | ⟨j, es, e1, e2⟩)
      · exact .inl z
      · rcases set_own e1 with ⟨rfl, z, _⟩ | ⟨_, z⟩
        · exact .inr ⟨j, ds, h, e2⟩
        · exact .inr ⟨j, es, z, e2⟩
    · rintro (z | ⟨j, es, e1, e2⟩)
      · exact .inl z
      · by_cases e : j = i
        · subst e
          exact .inr ⟨j, ds', by rw [List.getElem?_set_self hl], e2⟩
        · exact .inr ⟨j, es, by rw [List.getElem?_set_ne (Ne.symm e)]; exact e1, e2⟩
  have m : Mv (Avo Av B o st) (Avo Av B o (st.set i (.ow ds'))) H (upd H (o i) vs') := by
    refine ⟨fun a u n e => ⟨fun z => n ((same a).mp z), ?_⟩⟩
    rw [upd_ne fun z => n (.inr ⟨i, ds, h, z.symm⟩)]; exact e
  have kp : Kp g H0 (upd H (o i) vs') := by
    refine ⟨fun a u e nw => ?_, g.st H _ (fun a ha => upd_ne fun z => nT (z ▸ ha)) R.kp.2⟩
    rw [upd_ne (ne_of_none e q2)]
    exact R.kp.1 a u e nw
  refine ⟨by simp [R.len], kp, fun j e hj => ?_, fun j es hj => ?_, fun j k es fs h1 h2 he => ?_, fun a ha => ⟨?_, (R.bt a ha).2⟩, fun v d hv => (R.gho v d hv).mv m⟩
  · rcases set_val hj with ⟨rfl, z, _⟩ | ⟨ne, z⟩
    · cases z
    · obtain ⟨v', e1, r'⟩ := R.val j e z
      exact ⟨v', e1, r'.mv m⟩
  · rcases set_own hj with ⟨rfl, z, _⟩ | ⟨ne, z⟩
    · cases z
      exact ⟨q1, q2, q3, vs', upd_same, r.mv m⟩
    · obtain ⟨e1, e2, nb, ws, e3, r'⟩ := R.ow j es z
      exact ⟨e1, e2, nb, ws, by rw [upd_ne fun e => ne (R.inj j i es ds z h e)]; exact e3, r'.mv m⟩
  · rcases set_own h1 with ⟨rfl, _, _⟩ | ⟨n1, z⟩
    · rcases set_own h2 with ⟨rfl, _, _⟩ | ⟨n2, z2⟩
      · rfl
      · exact R.inj j k ds fs h z2 he
    · rcases set_own h2 with ⟨rfl, _, _⟩ | ⟨n2, z2⟩
      · exact R.inj j k es ds z h he
      · exact R.inj j k es fs z z2 he
  · intro e
    by_cases z : a = o i
    · exact q3 (z ▸ ha)
    · rw [upd_ne z] at e
      exact (R.bt a ha).1 e
/-- a slot's own list becomes a value -/
theorem Rel.frz (F : FrOk g Av H0) (R : Rel g Av B gh H0 o σ st H) {i : Nat} {ds : Ct} (h : st[i]? = some (.ow ds)) : Rel g Av B gh H0 o σ (st.set i (.val ds.d)) H := by
  obtain ⟨q1, q2, q3, vs, q4, q5⟩ := R.ow i ds h
  have sub : ∀ a, Avo Av B o (st.set i (.val ds.d)) a → Avo Av B o st a ∧ a ≠ o i := by
    rintro a (z | ⟨j, es, e1, e2⟩)
    · exact ⟨.inl z, fun e => z.elim (fun z => F.tr _ z (e ▸ q2)) fun z => q3 (e ▸ z)⟩
    · rcases set_own e1 with ⟨_, z, _⟩ | ⟨ne, z⟩
      · cases z
      · exact ⟨.inr ⟨j, es, z, e2⟩, fun e => ne (R.inj j i es ds z h (e2.trans e))⟩
  have m : Mv (Avo Av B o st) (Avo Av B o (st.set i (.val ds.d))) H H := ⟨fun a u n e => ⟨fun z => n (sub a z).1, e⟩⟩
  refine ⟨by simp [R.len], R.kp, fun j e hj => ?_, fun j es hj => ?_, fun j k es fs h1 h2 he => ?_, R.bt, fun v d hv => (R.gho v d hv).mv m⟩
  · rcases set_val hj with ⟨rfl, z, _⟩ | ⟨ne, z⟩
    · cases z
      exact ⟨_, q1, q5.dr (fun z => (sub _ z).2 rfl) q4 fun a z => (sub a z).1⟩
    · obtain ⟨v', e1, r'⟩ := R.val j e z
      exact ⟨v', e1, r'.mv m⟩
  · rcases set_own hj with ⟨_, z, _⟩ | ⟨ne, z⟩
    · cases z
    · obtain ⟨e1, e2, nb, ws, e3, r'⟩ := R.ow j es z
      exact ⟨e1, e2, nb, ws, e3, r'.mv m⟩
  · rcases set_own h1 with ⟨_, z, _⟩ | ⟨_, z⟩
    · cases z
    · rcases set_own h2 with ⟨_, z2, _⟩ | ⟨_, z2⟩
      · cases z2
      · exact R.inj j k es fs z z2 he
end

section
variable {g : Gd} {Av B : Addr → Prop} {gh : V → D → Prop} {H0 H H1 : Hp} {o : Nat → Addr} {σ : L2.St} {st : Sx}
theorem Rel.setOwn {p : Addr} (R : Rel g Av (fun a => B a ∨ a = p) gh H0 o σ st H) (nB : ¬ B p) (h0 : H0 p = none) {vs : List V} {ds : List D} (hp : H p = some (.lst vs)) (r : DRs (Avo Av (fun a => B a ∨ a = p) o st) H vs ds) (i : Nat) :
    ∃ o', Rel g Av B gh H0 o' (σ.set i (some (.ref p))) (st.set i (.own ds)) H := R.setOw nB h0 (ds := .lst ds) hp ⟨vs, rfl, r⟩ i
theorem Rel.updOwn (F : FrOk g Av H0) (R : Rel g Av B gh H0 o σ st H) {i : Nat} {ds ds' : List D} {vs' : List V} (h : st[i]? = some (.own ds)) (r : DRs (Avo Av B o st) H vs' ds') :
    Rel g Av B gh H0 o σ (st.set i (.own ds')) (upd H (o i) (.lst vs')) := R.updOw F (ds' := .lst ds') h ⟨vs', rfl, r⟩
end

/-! ### statements -/
structure DE where
  nx : Sx → Prop
  rt : RQ
  bk : Sx → Prop
  ct : Sx → Prop
structure EndsOk (g : Gd) (Av B : Addr → Prop) (gh : V → D → Prop) (H0 : Hp) (E : Ends) (De : DE) : Prop where
  nx : ∀ o σ st H, Rel g Av B gh H0 o σ st H → De.nx st → E.nx σ H
  rt : ∀ fr d v H', Kp g H0 H' → Res Av H0 v fr d H' → De.rt fr d → E.rt v H'
  bk : ∀ o σ st H, Rel g Av B gh H0 o σ st H → De.bk st → E.bk σ H
  ct : ∀ o σ st H, Rel g Av B gh H0 o σ st H → De.ct st → E.ct σ H
abbrev WPS := DE → Sx → Prop
def WS (g : Gd) (X : Cx) (s : Stmt) (w : WPS) : Prop := ∃ t, PS X s t ∧ ∀ Av B gh H0 o σ st H E De, g.G H0 → FrOk g Av H0 → Rel g Av B gh H0 o σ st H → w De st → EndsOk g Av B gh H0 E De → t E σ H
def WSs (g : Gd) (X : Cx) (s : List Stmt) (w : WPS) : Prop := ∃ t, PSs X s t ∧ ∀ Av B gh H0 o σ st H E De, g.G H0 → FrOk g Av H0 → Rel g Av B gh H0 o σ st H → w De st → EndsOk g Av B gh H0 E De → t E σ H
section
variable {g : Gd} {X : Cx} {s : Stmt} {ss rest : List Stmt} {w u : WPS} {e : Expr} {we : WP} {pos : Pos}
theorem wss_nil : WSs g X [] (fun De st => De.nx st) := ⟨_, pss_nil, fun Av B gh H0 o σ st H E De hg F R hw K => K.nx o σ st H R hw⟩
theorem wss_one (h : WS g X s w) : WSs g X [s] w := let ⟨t, p, q⟩ := h; ⟨t, pss_one p, q⟩
theorem wss_cons (h : WS g X s w) (hr : WSs g X rest u) : WSs g X (s :: rest) (fun De st => w { De with nx := u De } st) := by
  obtain ⟨t, p, q⟩ := h
  obtain ⟨t2, p2, q2⟩ := hr
  refine ⟨_, pss_cons p p2, fun Av B gh H0 o σ st H E De hg F R hw K => ?_⟩
  exact q Av B gh H0 o σ st H _ _ hg F R hw ⟨fun o σ st H R h => q2 Av B gh H0 o σ st H E De hg F R h K, K.rt, K.bk, K.ct⟩
def frzS (i : Nat) (st : Sx) : Sx := match st[i]? with | some (.ow c) => st.set i (.val c.d) | _ => st
theorem wss_frz (i : Nat) (h : WSs g X ss w) : WSs g X ss (fun De st => w De (frzS i st)) := by
  obtain ⟨t, p, q⟩ := h
  refine ⟨t, p, fun Av B gh H0 o σ st H E De hg F R hw K => ?_⟩
  simp only [frzS] at hw
  split at hw
  · rename_i ds e
    exact q Av B gh H0 o σ _ H E De hg F (R.frz F e) hw K
  · exact q Av B gh H0 o σ st H E De hg F R hw K
theorem ws_pass : WS g X (.Pass pos) (fun De st => De.nx st) := ⟨_, ps_pass, fun Av B gh H0 o σ st H E De hg F R hw K => K.nx o σ st H R hw⟩
theorem ws_break : WS g X (.Break pos) (fun De st => De.bk st) := ⟨_, ps_break, fun Av B gh H0 o σ st H E De hg F R hw K => K.bk o σ st H R hw⟩
theorem ws_cont : WS g X (.Continue pos) (fun De st => De.ct st) := ⟨_, ps_continue, fun Av B gh H0 o σ st H E De hg F R hw K => K.ct o σ st H R hw⟩
theorem ws_expr (h : WE g X e we) (hs : swapsWith e none pos.line X.env = pure false := by rfl) : WS g X (.Expr e pos) (fun De st => we st fun _ _ => De.nx st) := by
  obtain ⟨t, p, q⟩ := h
  refine ⟨_, ps_expr p hs, fun Av B gh H0 o σ st H E De hg F R hw K => ?_⟩
  exact q Av B gh H0 o σ st H _ _ hg F R hw fun fr d v H1 k1 r1 hd => K.nx o σ st H1 (R.mono F k1) hd
theorem Res.out {g : Gd} {Av B : Addr → Prop} {gh : V → D → Prop} {H0 H H1 : Hp} {o : Nat → Addr} {σ : L2.St} {st : Sx} (hg : g.G H0) (R : Rel g Av B gh H0 o σ st H) {v : V} {fr : Bool} {d : D} (r : Res (Avo Av B o st) H v fr d H1) : Res Av H0 v fr d H1 := by
  refine ⟨r.dr.mv ⟨fun a u n e => ⟨fun z => n (.inl (.inl z)), e⟩⟩, fun e => ?_⟩
  obtain ⟨p, vs, ds, e1, e2, e3, e4, e5⟩ := r.new e
  exact ⟨p, vs, ds, e1, e2, R.kp.free hg e3, e4, e5.mv ⟨fun a u n e => ⟨fun z => n (z.imp (fun z => .inl (.inl z)) id), e⟩⟩⟩
theorem ws_ret (h : WE g X e we) : WS g X (.Return (some e) pos) (fun De st => we st De.rt) := by
  obtain ⟨t, p, q⟩ := h
  refine ⟨_, ps_ret p, fun Av B gh H0 o σ st H E De hg F R hw K => ?_⟩
  exact q Av B gh H0 o σ st H _ _ hg F R hw fun fr d v H1 k1 r1 hd => K.rt fr d v H1 (R.kp.trans k1) (r1.out hg R) hd
theorem ws_retN : WS g X (.Return none pos) (fun De st => De.rt false .non) :=
  ⟨_, ps_retN, fun Av B gh H0 o σ st H E De hg F R hw K => K.rt false .non .non H R.kp (.old .non) hw⟩
/-- an own list goes out -/
theorem ws_retO (i : Nat) (h : PE X e (tVar i)) : WS g X (.Return (some e) pos) (fun De st => ∃ ds, st[i]? = some (.own ds) ∧ De.rt true (.lst ds)) := by
  refine ⟨_, ps_ret h, fun Av B gh H0 o σ st H E De hg F R hw K => ?_⟩
  obtain ⟨ds, e1, e2⟩ := hw
  obtain ⟨q1, q2, q3, vs, q4, q5⟩ := R.own i ds e1
  have m : Mv (Avo Av B o st) Av H H := ⟨fun a u n e => ⟨fun z => n (.inl (.inl z)), e⟩⟩
  have m2 : Mv (Avo Av B o st) (fun a => Av a ∨ a = o i) H H := ⟨fun a u n e => ⟨fun z => n (z.elim (fun z => .inl (.inl z)) fun z => .inr ⟨i, .lst ds, e1, z.symm⟩), e⟩⟩
  exact ⟨_, q1, K.rt true (.lst ds) _ H R.kp ⟨.lst (fun z => F.tr _ z q2) q4 (q5.mv m), fun _ => ⟨_, vs, ds, rfl, rfl, q2, q4, q5.mv m2⟩⟩ e2⟩
/-- an own list or dict goes out, not to be changed any more -/
theorem ws_retC (i : Nat) (h : PE X e (tVar i)) : WS g X (.Return (some e) pos) (fun De st => ∃ c, st[i]? = some (.ow c) ∧ De.rt false c.d) := by
  refine ⟨_, ps_ret h, fun Av B gh H0 o σ st H E De hg F R hw K => ?_⟩
  obtain ⟨c, e1, e2⟩ := hw
  obtain ⟨q1, q2, q3, u, q4, q5⟩ := R.ow i c e1
  exact ⟨_, q1, K.rt false c.d _ H R.kp (.old (q5.dr (fun z => F.tr _ z q2) q4 fun a z => .inl (.inl z))) e2⟩
theorem ws_if {c : Expr} {a b : List Stmt} {tc : WPT} {wa wb : WPS} (hc : WT g X c tc) (ha : WSs g X a wa) (hb : WSs g X b wb) : WS g X (.If c a b pos) (fun De st => tc st fun k => if k = true then wa De st else wb De st) := by
  obtain ⟨t, p, q⟩ := hc
  obtain ⟨t1, p1, q1⟩ := ha
  obtain ⟨t2, p2, q2⟩ := hb
  refine ⟨_, ps_if p p1 p2, fun Av B gh H0 o σ st H E De hg F R hw K => ?_⟩
  refine q Av B gh H0 o σ st H _ _ hg F R hw fun c H1 k1 hd => ?_
  cases c with
  | true => exact q1 Av B gh H0 o σ st H1 E De hg F (R.mono F k1) hd K
  | false => exact q2 Av B gh H0 o σ st H1 E De hg F (R.mono F k1) hd K
/-- name = e -/
theorem ws_set (i : Nat) (h : WE g X e we) (hp : ∀ te, PE X e te → PS X s (tAsg te (gName i))) : WS g X s (fun De st => we st fun _ d => De.nx (st.set i (.val d))) := by
  obtain ⟨t, p, q⟩ := h
  refine ⟨_, hp t p, fun Av B gh H0 o σ st H E De hg F R hw K => ?_⟩
  exact q Av B gh H0 o σ st H _ _ hg F R hw fun fr d v H1 k1 r1 hd => K.nx _ _ _ H1 ((R.mono F k1).setVal i r1.dr) hd
/-- name = a list that nobody else has -/
theorem Rel.ownRes {Av B : Addr → Prop} {gh : V → D → Prop} {H0 H H1 : Hp} {o : Nat → Addr} {σ : L2.St} {st : Sx} (F : FrOk g Av H0) (hg : g.G H0) (R : Rel g Av B gh H0 o σ st H) (k : Kp g H H1) {v : V} {ds : List D} (r : Res (Avo Av B o st) H v true (.lst ds) H1) (i : Nat) :
    ∃ o', Rel g Av B gh H0 o' (σ.set i (some v)) (st.set i (.own ds)) H1 := by
  obtain ⟨p, vs, ds', rfl, e2, e3, e4, e5⟩ := r.new rfl
  cases e2
  refine (R.addB F hg k e3 (by rw [e4]; simp)).setOwn (fun z => (R.bt p z).1 e3) (R.kp.free hg e3) e4 (e5.mv ⟨fun a u n e => ⟨fun z => n ?_, e⟩⟩) i
  rcases z with (z | z | z) | z
  · exact .inl (.inl (.inl z))
  · exact .inl (.inl (.inr z))
  · exact .inr z
  · exact .inl (.inr z)
theorem ws_own (i : Nat) (h : WE g X e we) (hp : ∀ te, PE X e te → PS X s (tAsg te (gName i))) : WS g X s (fun De st => we st fun fr d => ∃ ds, fr = true ∧ d = .lst ds ∧ De.nx (st.set i (.own ds))) := by
  obtain ⟨t, p, q⟩ := h
  refine ⟨_, hp t p, fun Av B gh H0 o σ st H E De hg F R hw K => ?_⟩
  refine q Av B gh H0 o σ st H _ _ hg F R hw fun fr d v H1 k1 r1 hd => ?_
  obtain ⟨ds, rfl, rfl, hd⟩ := hd
  obtain ⟨o', R'⟩ := R.ownRes F hg k1 r1 i
  exact K.nx o' _ _ H1 R' hd
/-- two names at once -/
def put (own : Bool) (i : Nat) (fr : Bool) (d : D) (st : Sx) (Q : Sx → Prop) : Prop := match own with
  | false => Q (st.set i (.val d))
  | true => ∃ ds, fr = true ∧ d = .lst ds ∧ Q (st.set i (.own ds))
end
end DW
namespace DW
open PySem PySem.Spec PyProof.Rows L2

/-! ### what is walked -/
def one (gv : V) (gd : D) : V → D → Prop := fun v d => v = gv ∧ d = gd
theorem oneR {Av : Addr → Prop} {H : Hp} {gv : V} {gd : D} (r : DR Av H gv gd) : ∀ v d, one gv gd v d → DR Av H v d := by
  rintro v d ⟨rfl, rfl⟩
  exact r
/-- J goes through ds as long as what Gh names stands -/
def Walk (g : Gd) (J : It) (Gh : V → D → Prop) (ds : List D) : Prop := ∀ (Avs Av : Addr → Prop) (H : Hp), Fit g Avs Av H → (∀ v d, Gh v d → DR Avs H v d) →
  J.stop ds.length H ∧ ∀ i d, ds[i]? = some d → J.go i H ∧ ∀ x H', J.yld i H x H' → Kp g H H' ∧ DR Avs H' x d
abbrev WPI := Sx → (List D → Prop) → Prop
def WI (g : Gd) (X : Cx) (tg iter : Expr) (w : WPI) : Prop := ∃ t, PI X tg iter t ∧ ∀ Av B gh H0 o σ st H R Qd, g.G H0 → FrOk g Av H0 → Rel g Av B gh H0 o σ st H → w st Qd →
  (∀ ds Gh J H', Kp g H H' → (∀ v d, Gh v d → DR (Avo Av B o st) H' v d) → Walk g J Gh ds → Qd ds → R J H') → t σ H R
section
variable {g : Gd} {X : Cx} {tg e a b : Expr} {w wa wb : WP} {p pos : Pos}
theorem walk_list {K : PySem.W.Frag} {a : Addr} {ds : List D} : Walk g (Itl K a) (one (.ref a) (.lst ds)) ds := by
  intro Avs Av H F r0
  have r := r0 _ _ ⟨rfl, rfl⟩
  cases r with
  | lst n e rs =>
    rename_i vs
    refine ⟨⟨vs, .inl (.inl e), by rw [rs.length]; exact Nat.le_refl _⟩, fun i d hd => ?_⟩
    obtain ⟨v, hv, rv⟩ := rs.get hd
    refine ⟨⟨vs, v, .inl (.inl e), hv⟩, fun x H' y => ?_⟩
    obtain ⟨rfl, y⟩ := y
    have := y vs (.inl (.inl e))
    rw [hv] at this; cases this
    exact ⟨Kp.refl F.gg, rv⟩
theorem walk_tup {K : PySem.W.Frag} {a : Addr} {ds : List D} : Walk g (Itt K a) (one (.ref a) (.tup ds)) ds := by
  intro Avs Av H F r0
  have r := r0 _ _ ⟨rfl, rfl⟩
  cases r with
  | tup n e rs =>
    rename_i vs
    refine ⟨⟨vs, .inl (.inl e), by rw [rs.length]; exact Nat.le_refl _⟩, fun i d hd => ?_⟩
    obtain ⟨v, hv, rv⟩ := rs.get hd
    refine ⟨⟨vs, v, .inl (.inl e), hv⟩, fun x H' y => ?_⟩
    obtain ⟨rfl, y⟩ := y
    have := y vs (.inl (.inl e))
    rw [hv] at this; cases this
    exact ⟨Kp.refl F.gg, rv⟩
theorem walk_range {lo : Int} {n : Nat} : Walk g (Itr lo n) (one .non .non) ((List.range n).map fun (i : Nat) => D.int (lo + (i : Int))) := by
  intro Avs Av H F r
  refine ⟨by show n ≤ _; simp, fun i d hd => ?_⟩
  have hl : i < n := by
    have := (List.getElem?_eq_some_iff.mp hd).1
    simpa using this
  have ed : d = .int (lo + (i : Int)) := by
    rw [List.getElem?_map, List.getElem?_range hl] at hd
    exact (Option.some.inj hd).symm
  refine ⟨hl, fun x H' y => ?_⟩
  obtain ⟨rfl, rfl⟩ := y
  subst ed
  exact ⟨Kp.refl F.gg, .int _⟩
def mItL : D → (List D → Prop) → Prop | .lst ds, Q => Q ds | _, _ => False
def mItT : D → (List D → Prop) → Prop | .tup ds, Q => Q ds | _, _ => False
theorem wi_list (h : WE g X e w) : WI g X tg e (fun st Q => w st fun _ d => mItL d Q) := by
  obtain ⟨t, p, q⟩ := h
  refine ⟨_, pi_list p, fun Av B gh H0 o σ st H R Qd hg F Rl hw hk => ?_⟩
  refine q Av B gh H0 o σ st H _ _ hg F Rl hw fun fr d v H1 k1 r1 hd => ?_
  cases d <;> simp only [mItL] at hd
  case lst ds =>
    have r := r1.dr
    cases r with
    | lst n e rs => exact ⟨_, rfl, ⟨_, .inl (.inl e)⟩, hk ds _ _ H1 k1 (oneR (.lst n e rs)) walk_list hd⟩
theorem wi_tup (h : WE g X e w) : WI g X tg e (fun st Q => w st fun _ d => mItT d Q) := by
  obtain ⟨t, p, q⟩ := h
  refine ⟨_, pi_tup p, fun Av B gh H0 o σ st H R Qd hg F Rl hw hk => ?_⟩
  refine q Av B gh H0 o σ st H _ _ hg F Rl hw fun fr d v H1 k1 r1 hd => ?_
  cases d <;> simp only [mItT] at hd
  case tup ds =>
    have r := r1.dr
    cases r with
    | tup n e rs => exact ⟨_, rfl, ⟨_, .inl (.inl e)⟩, hk ds _ _ H1 k1 (oneR (.tup n e rs)) walk_tup hd⟩
def rg62 (j : Int) : Prop := -(2 ^ 62) ≤ j ∧ j < 2 ^ 62
theorem wi_rg1 (h : WE g X a w) (hg : Gl X "range") (hm : X.mg "range" = none) (hs : starEach [a] X.env = [(false, eval a X.env)] := by rfl) (na : starEach [a] X.env = (false, eval a X.env) :: starEach [] X.env := by rfl) :
    WI g X tg (.Call (.Name "range" p) [a] [] pos) (fun st Q => w st fun _ d => ∃ j, d = .int j ∧ rg62 j ∧ Q ((List.range j.toNat).map fun (i : Nat) => D.int (0 + (i : Int)))) := by
  obtain ⟨t, p, q⟩ := h
  refine ⟨_, pi_range1 hg hm (pa_cons p pa_nil na) hs, fun Av B gh H0 o σ st H R Qd hg F Rl hw hk => ?_⟩
  refine q Av B gh H0 o σ st H _ _ hg F Rl hw fun fr d v H1 k1 r1 hd => ?_
  obtain ⟨j, rfl, ok, hd⟩ := hd
  have ev : v = .int j := by cases r1.dr; rfl
  subst ev
  exact ⟨j, rfl, ok.1, ok.2, hk _ _ _ H1 k1 (oneR .non) walk_range hd⟩
theorem wi_rg2 (h : WE g X a wa) (h2 : WE g X b wb) (hg : Gl X "range") (hm : X.mg "range" = none) (hs : starEach [a, b] X.env = [(false, eval a X.env), (false, eval b X.env)] := by rfl) (hs2 : starEach [b] X.env = [(false, eval b X.env)] := by rfl)
    (na : starEach [a, b] X.env = (false, eval a X.env) :: starEach [b] X.env := by rfl) (nb : starEach [b] X.env = (false, eval b X.env) :: starEach [] X.env := by rfl) :
    WI g X tg (.Call (.Name "range" p) [a, b] [] pos) (fun st Q => wa st fun _ d => wb st fun _ d2 => ∃ i j, d = .int i ∧ d2 = .int j ∧ rg62 i ∧ rg62 j ∧ Q ((List.range (j - i).toNat).map fun (k : Nat) => D.int (i + (k : Int)))) := by
  obtain ⟨t, p, q⟩ := h
  obtain ⟨t2, p2, q2⟩ := h2
  refine ⟨_, pi_range2 hg hm (pa_cons p (pa_cons p2 pa_nil nb) na) hs hs2, fun Av B gh H0 o σ st H R Qd hg F Rl hw hk => ?_⟩
  refine q Av B gh H0 o σ st H _ _ hg F Rl hw fun fr d v H1 k1 r1 hw1 => ?_
  refine q2 Av B gh H0 o σ st H1 _ _ hg F (Rl.mono F k1) hw1 fun fr2 d2 v2 H2 k2 r2 hd => ?_
  obtain ⟨i, j, rfl, rfl, ok, ok2, hd⟩ := hd
  have ev : v = .int i := by cases r1.dr; rfl
  have ev2 : v2 = .int j := by cases r2.dr; rfl
  subst ev ev2
  exact ⟨i, j, rfl, ⟨ok.1, ok.2, ok2.1, ok2.2⟩, hk _ _ _ H2 (k1.trans k2) (oneR .non) walk_range hd⟩
end

/-! ### targets -/
abbrev WPG := D → Sx → (Sx → Prop) → Prop
/-- a target that stores to the slots is -/
def WG (g : Gd) (X : Cx) (tg : Expr) (js : List Nat) (b : WPG) : Prop := ∃ t, PG X tg t ∧ ∀ Av B gh H0 o σ st H v d Q Qd, g.G H0 → FrOk g Av H0 → Rel g Av B gh H0 o σ st H → DR (Avo Av B o st) H v d → b d st Qd →
  (∀ σ' st', Rel g Av B gh H0 o σ' st' H → wipe σ' js = wipe σ js → ((∀ j ∈ js, ∀ c : Ct, st[j]? ≠ some (Sl.ow c)) → ∀ a, Avo Av B o st a → Avo Av B o st' a) → Qd st' → Q σ' H) → t v σ H Q
theorem avo_set {Av B : Addr → Prop} {o : Nat → Addr} {st : Sx} {i : Nat} {d : D} (n : ∀ c : Ct, st[i]? ≠ some (Sl.ow c)) (a : Addr) (h : Avo Av B o st a) : Avo Av B o (st.set i (.val d)) a := by
  rcases h with h | ⟨j, es, e1, e2⟩
  · exact .inl h
  · by_cases e : j = i
    · subst e; exact absurd e1 (n es)
    · exact .inr ⟨j, es, by rw [List.getElem?_set_ne (Ne.symm e)]; exact e1, e2⟩
theorem wipe_set {js : List Nat} {i : Nat} {x : Option V} {σ : L2.St} (h : i ∈ js) : wipe (σ.set i x) js = wipe σ js := by
  induction js with
  | nil => cases h
  | cons j js ih =>
    simp only [wipe]
    by_cases e : i ∈ js
    · rw [ih e]
    · have : i = j := by
        rcases List.mem_cons.mp h with h | h
        · exact h
        · exact absurd h e
      subst this
      have key : ∀ (js : List Nat) (σ : L2.St), i ∉ js → wipe (σ.set i x) js = (wipe σ js).set i x := by
        intro js
        induction js with
        | nil => intro σ _; rfl
        | cons k ks ih2 =>
          intro σ hk
          simp only [wipe]
          rw [ih2 σ fun z => hk (List.mem_cons_of_mem _ z)]
          exact List.set_comm _ _ fun z => hk (z ▸ List.mem_cons_self)
      rw [key js σ e, List.set_set]
section
variable {g : Gd} {X : Cx} {tg : Expr} {es : List Expr}
theorem wg_name (i : Nat) (h : PG X tg (gName i)) : WG g X tg [i] (fun d st Q => Q (st.set i (.val d))) :=
  ⟨_, h, fun Av B gh H0 o σ st H v d Q Qd hg F R r hb hk => hk _ _ (R.setVal i r) (wipe_set (by simp)) (fun n => avo_set (n i (by simp))) hb⟩
/-- (a, b, ..), names -/
def putAll : List Nat → List D → Sx → Sx
  | i :: is, d :: ds, st => putAll is ds (st.set i (.val d))
  | _, _, st => st
def gNames : List Nat → TGs
  | [] => gNil
  | i :: is => gCons (gName i) (gNames is)
theorem wg_tup (js : List Nat) {n : Nat} (hn : js.length = n) (h : PG X tg (gTup X.K n (gNames js))) : WG g X tg js (fun d st Q => ∃ ds, d = .tup ds ∧ ds.length = js.length ∧ Q (putAll js ds st)) := by
  refine ⟨_, h, fun Av B gh H0 o σ st H v d Q Qd hg F R r hb hk => ?_⟩
  obtain ⟨ds, rfl, hl, hq⟩ := hb
  cases r with
  | tup na ea rs =>
    rename_i a vs
    refine ⟨a, vs, rfl, .inl (.inl ea), by rw [rs.length, hl, hn], ?_⟩
    have key : ∀ (is : List Nat) (vs : List V) (ds : List D) (σ2 : L2.St) (st2 : Sx), (∀ i ∈ is, i ∈ js) → ds.length = is.length → DRs (Avo Av B o st2) H vs ds → Rel g Av B gh H0 o σ2 st2 H → wipe σ2 js = wipe σ js → ((∀ j ∈ js, ∀ c : Ct, st[j]? ≠ some (Sl.ow c)) → (∀ j ∈ js, ∀ c : Ct, st2[j]? ≠ some (Sl.ow c)) ∧ ∀ a, Avo Av B o st a → Avo Av B o st2 a) → Qd (putAll is ds st2) → gNames is vs σ2 H Q := by
      intro is
      induction is with
      | nil =>
        intro vs ds σ2 st2 _ hl rs R hwp ha hq
        cases ds with
        | nil => cases rs; exact ⟨rfl, hk _ _ R hwp (fun n => (ha n).2) hq⟩
        | cons _ _ => simp at hl
      | cons i is ih =>
        intro vs ds σ2 st2 hj hl rs R hwp ha hq
        cases rs with
        | nil => simp at hl
        | cons r1 rs =>
          have R' := R.setVal i r1
          refine ⟨_, _, rfl, ?_⟩
          have sub : ∀ (d : D) a, Avo Av B o (st2.set i (.val d)) a → Avo Av B o st2 a := by
            rintro d a (h | ⟨j, es, e1, e2⟩)
            · exact .inl h
            · rcases set_own e1 with ⟨_, z, _⟩ | ⟨_, z⟩
              · cases z
              · exact .inr ⟨j, es, z, e2⟩
          refine ih _ _ _ _ (fun k hk => hj k (List.mem_cons_of_mem _ hk)) (by simpa using hl) (rs.mv ⟨fun a u n e => ⟨fun z => n (sub _ a z), e⟩⟩) R' ((wipe_set (hj i List.mem_cons_self)).trans hwp) (fun n => ?_) hq
          obtain ⟨n2, sa⟩ := ha n
          refine ⟨fun j hjj ds h => ?_, fun a h => avo_set (n2 i (hj i List.mem_cons_self)) a (sa a h)⟩
          rcases set_own h with ⟨_, z, _⟩ | ⟨_, z⟩
          · cases z
          · exact n2 j hjj ds z
    exact key js vs ds σ st (fun _ h => h) hl rs R rfl (fun n => ⟨n, fun _ h => h⟩) hq
end

/-! ### for -/
def wFor (b : WPG) (body : WPS) (De : DE) : List D → Sx → Prop
  | [], st => De.nx st
  | d :: ds, st => b d st fun st' => body ⟨fun s => wFor b body De ds s, De.rt, De.nx, fun s => wFor b body De ds s⟩ st'
section
variable {g : Gd} {X : Cx} {tg iter : Expr} {body : List Stmt} {wi : WPI} {bn : WPG} {wb : WPS} {js : List Nat} {pos : Pos}
theorem ws_for (hc : X.calm = true) (hi : WI g X tg iter wi) (ht : WG g X tg js bn) (hb : WSs g X body wb) (hp : PassesOwn (model X.prog X.w) X.A X.env X.xe := by exact PassesOwn.never) (hs : ∀ x, foldedSetIterable iter X.env x = pure x := by intro _; rfl) :
    WS g X (.For tg iter body [] pos) (fun De st => wi st fun ds => wFor bn wb De ds st) := by
  obtain ⟨t, p, q⟩ := hi
  obtain ⟨t1, p1, q1⟩ := ht
  obtain ⟨t2, p2, q2⟩ := hb
  refine ⟨_, ps_for hp hc p p1 p2 hs, fun Av B gh H0 o σ st H E De hg F R hw K => ?_⟩
  refine q Av B gh H0 o σ st H _ _ hg F R hw fun ds Gh J H1 k1 r1 wk hd => ?_
  -- what holds at the head of turn i
  let Inv := fun (i : Nat) (σ : L2.St) (H : Hp) => ∃ o st, Rel g Av B (fun v d => gh v d ∨ Gh v d) H0 o σ st H ∧ wFor bn wb De (ds.drop i) st
  have base : Inv 0 σ H1 := by
    have R1 := R.mono F k1
    exact ⟨o, st, ⟨R1.len, R1.kp, R1.val, R1.ow, R1.inj, R1.bt, fun v d h => h.elim (R1.gho v d) fun h => r1 v d h⟩, hd⟩
  have less : ∀ {o σ st H}, Rel g Av B (fun v d => gh v d ∨ Gh v d) H0 o σ st H → Rel g Av B gh H0 o σ st H := fun R => ⟨R.len, R.kp, R.val, R.ow, R.inj, R.bt, fun v d h => R.gho v d (.inl h)⟩
  refine ⟨fun i m σ H => i ≤ ds.length ∧ m = ds.length - i ∧ Inv i σ H, ⟨ds.length, Nat.zero_le _, rfl, base⟩, fun i m σ H hW => ?_⟩
  obtain ⟨hi, rfl, o2, st2, R2, hf⟩ := hW
  have wk2 := wk _ _ H (R2.fit F) (fun v d h => R2.gho v d (.inr h))
  by_cases hl : i < ds.length
  · obtain ⟨go, yl⟩ := wk2.2 i _ (List.getElem?_eq_getElem hl)
    refine .inr ⟨go, fun σ' H' => Inv (i + 1) σ' H', fun σ' H' h => ⟨_, by omega, hl, rfl, h⟩, fun x H2 y => ?_⟩
    obtain ⟨k2, rx⟩ := yl x H2 y
    rw [List.drop_eq_getElem_cons hl] at hf
    refine q1 Av B _ H0 o2 σ st2 H2 x _ _ _ hg F (R2.mono F k2) rx hf fun σ3 st3 R3 _ _ hb3 => ?_
    refine q2 Av B _ H0 o2 σ3 st3 H2 _ _ hg F R3 hb3 ⟨fun o4 σ4 st4 H4 R4 h4 => ⟨o4, st4, R4, h4⟩, K.rt, fun o4 σ4 st4 H4 R4 h4 => K.nx o4 σ4 st4 H4 (less R4) h4, fun o4 σ4 st4 H4 R4 h4 => ⟨o4, st4, R4, h4⟩⟩
  · have e : i = ds.length := by omega
    subst e
    rw [List.drop_length] at hf
    exact .inl ⟨wk2.1, K.nx o2 σ st2 H (less R2) hf⟩
end

/-! ### list comprehensions -/
def wLc (b : WPG) (tt : WPT) (te : WP) (s0 : Sx) : List D → (List D → Prop) → Prop
  | [], Q => Q []
  | d :: ds, Q => b d s0 fun st => tt st fun c => if c = true then te st fun _ y => wLc b tt te s0 ds fun ys => Q (y :: ys) else wLc b tt te s0 ds Q
def wipeS (st : Sx) : List Nat → Sx
  | [] => st
  | i :: is => (wipeS st is).set i .un
def WTs (g : Gd) (X : Cx) (ifs : List Expr) (w : WPT) : Prop := ∃ t, PTs X ifs t ∧ ∀ Av B gh H0 o σ st H Q Qd, g.G H0 → FrOk g Av H0 → Rel g Av B gh H0 o σ st H → w st Qd →
  (∀ b H', Kp g H H' → Qd b → Q b H') → t σ H Q
theorem Rel.wipe {g : Gd} {Av B : Addr → Prop} {gh : V → D → Prop} {H0 H : Hp} {o : Nat → Addr} {σ : L2.St} {st : Sx} (R : Rel g Av B gh H0 o σ st H) : ∀ js, Rel g Av B gh H0 o (wipe σ js) (wipeS st js) H
  | [] => R
  | j :: js => by
    show Rel g Av B gh H0 o ((L2.wipe σ js).set j none) ((wipeS st js).set j .un) H
    exact (R.wipe js).setUn j none
end DW
namespace DW
open PySem PySem.Spec PyProof.Rows L2

/-- one reading for all contexts of a family -/
theorem uni {ι : Type} {T : Type} {P : ι → T → Prop} {S : T → Prop} (meet : (ι → T) → T) (anti : ∀ (f : ι → T) (i : ι), P i (f i) → P i (meet f)) (closed : ∀ f : ι → T, (∀ i, S (f i)) → S (meet f))
    (h : ∀ i, ∃ t, P i t ∧ S t) : ∃ t, (∀ i, P i t) ∧ S t := by
  let f := fun i => (h i).choose
  have hf : ∀ i, P i (f i) ∧ S (f i) := fun i => (h i).choose_spec
  exact ⟨meet f, fun i => anti f i (hf i).1, closed f fun i => (hf i).2⟩
section
variable {g : Gd} {Av B : Addr → Prop} {gh : V → D → Prop} {H0 H H1 : Hp} {o : Nat → Addr} {σ : L2.St} {st : Sx}
/-- what is being made is written -/
theorem Rel.updB (R : Rel g Av B gh H0 o σ st H) {p : Addr} {u : HO} (hb : B p) (h0 : H0 p = none) : Rel g Av B gh H0 o σ st (upd H p u) := by
  have nT : ¬ g.T p := (R.bt p hb).2
  have m : Mv (Avo Av B o st) (Avo Av B o st) H (upd H p u) := ⟨fun a x n e => ⟨n, by rw [upd_ne fun (z : a = p) => n (.inl (.inr (z ▸ hb)))]; exact e⟩⟩
  refine ⟨R.len, ⟨fun a x e nw => ?_, g.st H _ (fun a ha => upd_ne fun z => nT (z ▸ ha)) R.kp.2⟩, fun i d e => ?_, fun i ds e => ?_, R.inj, fun a h => ⟨?_, (R.bt a h).2⟩, fun v d h => (R.gho v d h).mv m⟩
  · rw [upd_ne (ne_of_none e h0)]; exact R.kp.1 a x e nw
  · obtain ⟨v, e1, r⟩ := R.val i d e
    exact ⟨v, e1, r.mv m⟩
  · obtain ⟨e1, e2, nb, vs, e3, r⟩ := R.ow i ds e
    exact ⟨e1, e2, nb, vs, by rw [upd_ne fun (z : o i = p) => nb (z ▸ hb)]; exact e3, r.mv m⟩
  · intro e
    by_cases z : a = p
    · subst z; rw [upd_same] at e; cases e
    · rw [upd_ne z] at e; exact (R.bt a h).1 e
theorem wipeS_get {st : Sx} {js : List Nat} {i : Nat} {s : Sl} (h : (wipeS st js)[i]? = some s) : (i ∈ js ∧ s = .un) ∨ (i ∉ js ∧ st[i]? = some s) := by
  induction js with
  | nil => exact .inr ⟨by simp, h⟩
  | cons j js ih =>
    simp only [wipeS] at h
    by_cases e : i = j
    · subst e
      by_cases hl : i < (wipeS st js).length
      · rw [List.getElem?_set_self hl] at h
        exact .inl ⟨by simp, (Option.some.inj h).symm⟩
      · rw [List.getElem?_eq_none (by simpa using hl)] at h; cases h
    · rw [List.getElem?_set_ne (Ne.symm e)] at h
      rcases ih h with ⟨a, b⟩ | ⟨a, b⟩
      · exact .inl ⟨List.mem_cons_of_mem _ a, b⟩
      · exact .inr ⟨by simp [e, a], b⟩
theorem wipeS_keep {st : Sx} {js : List Nat} {i : Nat} (h : i ∉ js) : (wipeS st js)[i]? = st[i]? := by
  induction js with
  | nil => rfl
  | cons j js ih =>
    simp only [wipeS]
    rw [List.getElem?_set_ne fun e => h (by simp [e])]
    exact ih fun z => h (List.mem_cons_of_mem _ z)
/-- the block's frame: the wiped slots' own lists and the new list set apart -/
def Blk (B : Addr → Prop) (o : Nat → Addr) (st : Sx) (js : List Nat) (p : Addr) (a : Addr) : Prop := (B a ∨ a = p) ∨ ∃ (i : Nat) (ds : Ct), i ∈ js ∧ st[i]? = some (Sl.ow ds) ∧ o i = a
theorem Rel.blk (F : FrOk g Av H0) {p : Addr} (R : Rel g Av (fun a => B a ∨ a = p) gh H0 o σ st H) (js : List Nat) : Rel g Av (Blk B o st js p) gh H0 o (L2.wipe σ js) (wipeS st js) H := by
  have sub : ∀ a, Avo Av (Blk B o st js p) o (wipeS st js) a → Avo Av (fun a => B a ∨ a = p) o st a := by
    rintro a ((z | z | ⟨i, ds, _, e1, e2⟩) | ⟨i, ds, e1, e2⟩)
    · exact .inl (.inl z)
    · exact .inl (.inr z)
    · exact .inr ⟨i, ds, e1, e2⟩
    · rcases wipeS_get e1 with ⟨_, z⟩ | ⟨_, z⟩
      · cases z
      · exact .inr ⟨i, ds, z, e2⟩
  have R2 := R.wipe js
  have m : Mv (Avo Av (fun a => B a ∨ a = p) o st) (Avo Av (Blk B o st js p) o (wipeS st js)) H H := ⟨fun a u n e => ⟨fun z => n (sub a z), e⟩⟩
  refine ⟨R2.len, R.kp, fun i d e => ?_, fun i ds e => ?_, R2.inj, fun a h => ?_, fun v d h => (R.gho v d h).mv m⟩
  · rcases wipeS_get e with ⟨_, z⟩ | ⟨nj, z⟩
    · cases z
    · obtain ⟨v, e1, _⟩ := R2.val i d e
      obtain ⟨v', e1', r⟩ := R.val i d z
      have : v = v' := by
        have q := (L2.wipe_some e1).1
        rw [e1'] at q; exact (Option.some.inj (Option.some.inj q)).symm
      subst this
      exact ⟨v, e1, r.mv m⟩
  · rcases wipeS_get e with ⟨_, z⟩ | ⟨nj, z⟩
    · cases z
    · obtain ⟨e1, e2, nb, vs, e3, _⟩ := R2.ow i ds e
      obtain ⟨_, _, nb', vs', e3', r⟩ := R.ow i ds z
      rw [e3] at e3'; cases e3'
      refine ⟨e1, e2, fun h => ?_, vs, e3, r.mv m⟩
      rcases h with h | ⟨j, es, hj, h1, h2⟩
      · exact nb' h
      · exact nj ((R.inj j i es ds h1 z h2) ▸ hj)
  · rcases h with h | ⟨j, es, hj, h1, h2⟩
    · exact R.bt a h
    · obtain ⟨_, _, _, vs, e3, _⟩ := R.ow j es h1
      rw [← h2]
      exact ⟨by rw [e3]; simp, R.ownT F h1⟩
end
section
variable {g : Gd} {X : Cx} {elt tg iter : Expr} {ifs : List Expr} {scope : Scope} {own : List (Str × Nat)} {pos : Pos} {wi : WPI} {bn : WPG} {tt : WPT} {te : WP}
abbrev Blks (X : Cx) (scope : Scope) := Shared × Hp × Addr × List (Str × Addr) × List Addr
abbrev blkX (X : Cx) (scope : Scope) (i : Blks X scope) : Cx := X.blk i.1 i.2.1 scope (compEnvC scope i.2.2.2.1 i.2.2.1 X.env) i.2.2.2.2
theorem wts_nil : WTs g X [] (fun _ Q => Q true) := ⟨_, pts_nil, fun Av B gh H0 o σ st H Q Qd hg F R hw hk => hk true H (Kp.refl R.kp.2) hw⟩
theorem wts_one {c : Expr} {u : WPT} (h : WT g X c u) : WTs g X [c] u := let ⟨t, p, q⟩ := h; ⟨t, pts_one p, q⟩
/-- the soundness of a comprehension's reading -/
theorem lc_snd {ti : TI} {tb : TG} {tT : TT} {tE : TE} (js : List Nat)
    (qi : ∀ Av B gh H0 o σ st H R Qd, g.G H0 → FrOk g Av H0 → Rel g Av B gh H0 o σ st H → wi st Qd → (∀ ds Gh J H', Kp g H H' → (∀ v d, Gh v d → DR (Avo Av B o st) H' v d) → Walk g J Gh ds → Qd ds → R J H') → ti σ H R)
    (qb : ∀ Av B gh H0 o σ st H v d Q Qd, g.G H0 → FrOk g Av H0 → Rel g Av B gh H0 o σ st H → DR (Avo Av B o st) H v d → bn d st Qd →
      (∀ σ' st', Rel g Av B gh H0 o σ' st' H → wipe σ' js = wipe σ js → ((∀ j ∈ js, ∀ c : Ct, st[j]? ≠ some (Sl.ow c)) → ∀ a, Avo Av B o st a → Avo Av B o st' a) → Qd st' → Q σ' H) → tb v σ H Q)
    (qt : ∀ Av B gh H0 o σ st H Q Qd, g.G H0 → FrOk g Av H0 → Rel g Av B gh H0 o σ st H → tt st Qd → (∀ b H', Kp g H H' → Qd b → Q b H') → tT σ H Q)
    (qe : ∀ Av B gh H0 o σ st H Q Qd, g.G H0 → FrOk g Av H0 → Rel g Av B gh H0 o σ st H → te st Qd → (∀ fr d v H', Kp g H H' → Res (Avo Av B o st) H v fr d H' → Qd fr d → Q v H') → tE σ H Q) :
    ∀ Av B gh H0 o σ st H Q (Qd : Bool → D → Prop), g.G H0 → FrOk g Av H0 → Rel g Av B gh H0 o σ st H → (wi st fun ds => ds.length < sizeLine ∧ wLc bn tt te (wipeS st js) ds fun ys => Qd true (.lst ys)) →
      (∀ fr d v H', Kp g H H' → Res (Avo Av B o st) H v fr d H' → Qd fr d → Q v H') → tLc ti tb tT tE js σ H Q := by
  intro Av B gh H0 o σ st H Q Qd hg F R hw hk
  refine qi Av B gh H0 o σ st H _ _ hg F R hw fun ds Gh J H1 k1 r1 wk hd => ?_
  intro D hD
  obtain ⟨hsz, hd⟩ := hd
  let gh' := fun (v : V) (d : DW.D) => gh v d ∨ Gh v d
  have R1 : Rel g Av B gh' H0 o σ st H1 := by
    have R1 := R.mono F k1
    exact ⟨R1.len, R1.kp, R1.val, R1.ow, R1.inj, R1.bt, fun v d h => h.elim (R1.gho v d) fun h => r1 v d h⟩
  have kD : Kp g H1 (upd H1 D (.lst [])) := Kp.new R1.kp.2 hD
  have h0D : H0 D = none := R1.kp.free hg hD
  have R2 : Rel g Av (fun a => B a ∨ a = D) gh' H0 o σ st (upd H1 D (.lst [])) := R1.addB F hg kD hD (by rw [upd_same]; simp)
  have bD : Blk B o st js D D := .inl (.inr rfl)
  let W := fun (i m : Nat) (H : Hp) => i ≤ ds.length ∧ m = ds.length - i ∧ ∃ acc ys, H D = some (.lst acc) ∧ acc.length ≤ i ∧ Rel g Av (fun a => B a ∨ a = D) gh' H0 o σ st H ∧ DRs (Avo Av (Blk B o st js D) o (wipeS st js)) H acc ys ∧
    (∀ a u, H1 a = some u → ¬ g.W a → H a = some u) ∧ wLc bn tt te (wipeS st js) (ds.drop i) fun zs => Qd true (.lst (ys ++ zs))
  have noown : ∀ j ∈ js, ∀ es : Ct, (wipeS st js)[j]? ≠ some (Sl.ow es) := fun j hj es h => by
    rcases wipeS_get h with ⟨_, z⟩ | ⟨nj, _⟩
    · cases z
    · exact nj hj
  refine ⟨W, ⟨ds.length, Nat.zero_le _, rfl, [], [], upd_same, Nat.le_refl _, R2, .nil, fun a u e _ => by rw [upd_ne (ne_of_none e hD)]; exact e, by simpa using hd⟩, fun i m H2 hW => ?_⟩
  obtain ⟨hi, rfl, acc, ys, hacc, hla, R3, dacc, keep, hf⟩ := hW
  have wk2 := wk _ _ H2 (R3.fit F) (fun v d h => R3.gho v d (.inr h))
  by_cases hl : i < ds.length
  · obtain ⟨go, yl⟩ := wk2.2 i _ (List.getElem?_eq_getElem hl)
    rw [List.drop_eq_getElem_cons hl] at hf
    refine .inr ⟨go, fun H' => W (i + 1) (ds.length - (i + 1)) H', fun H' h => ⟨_, by omega, h⟩, fun x H3 y => ?_⟩
    obtain ⟨k3, rx⟩ := yl x H3 y
    have R4 := (R3.mono F k3).blk F js
    have rx' : DR (Avo Av (Blk B o st js D) o (wipeS st js)) H3 x ds[i] := by
      have r0 := wk _ _ H2 ((R3.blk F js).fit F) (fun v d h => (R3.blk F js).gho v d (.inr h))
      exact ((r0.2 i _ (List.getElem?_eq_getElem hl)).2 x H3 y).2
    refine qb Av _ gh' H0 o _ _ H3 x _ _ _ hg F R4 rx' hf fun σ5 st5 R5 hwp hav hb5 => ⟨hwp.trans (by
      have : ∀ (js : List Nat) (σ : L2.St), L2.wipe (L2.wipe σ js) js = L2.wipe σ js := by
        intro js σ
        have key : ∀ (ks : List Nat), (∀ k ∈ ks, k ∈ js) → L2.wipe (L2.wipe σ js) ks = L2.wipe σ js := by
          intro ks
          induction ks with
          | nil => intro _; rfl
          | cons k ks ih =>
            intro hk
            simp only [L2.wipe]
            rw [ih fun z hz => hk z (List.mem_cons_of_mem _ hz)]
            apply List.ext_getElem?
            intro n
            by_cases e : k = n
            · subst e
              have hkm := hk k List.mem_cons_self
              by_cases hlen : k < (L2.wipe σ js).length
              · rw [List.getElem?_set_self hlen]
                cases q : (L2.wipe σ js)[k]? with
                | none => rw [List.getElem?_eq_none_iff] at q; omega
                | some z =>
                  cases z with
                  | none => rfl
                  | some z => exact absurd hkm (L2.wipe_some q).2
              · rw [List.getElem?_eq_none (by simpa using hlen), List.getElem?_eq_none (by simpa using hlen)]
            · rw [List.getElem?_set_ne e]
        exact key js fun _ h => h
      rw [this]), ?_⟩
    have hav := hav noown
    refine qt Av _ gh' H0 o σ5 st5 H3 _ _ hg F R5 hb5 fun c H4 k4 hc => ?_
    have k34 := k3.trans k4
    have dacc4 := dacc.mv (Mv.kp (fun a h => Avo.ta F h) k34)
    have acc4 : H4 D = some (.lst acc) := k34.1 D _ hacc fun w => (R3.bt D (.inr rfl)).2 (g.wt _ w)
    cases c with
    | false =>
      simp only [Bool.false_eq_true, if_false] at hc ⊢
      exact ⟨hl, rfl, acc, ys, acc4, by omega, R3.mono F k34, dacc4, fun a u e n => k34.1 a u (keep a u e n) n, hc⟩
    | true =>
      simp only [if_true] at hc ⊢
      refine qe Av _ gh' H0 o σ5 st5 H4 _ _ hg F (R5.mono F k4) hc fun fr d v H5 k5 r5 hz => ?_
      have k45 := k34.trans k5
      have acc5 : H5 D = some (.lst acc) := k5.1 D _ acc4 fun w => (R3.bt D (.inr rfl)).2 (g.wt _ w)
      have R5' := R3.mono F k45
      refine ⟨acc, acc5, by omega, hl, rfl, acc ++ [v], ys ++ [d], upd_same, by simp; omega, R5'.updB (.inr rfl) h0D, ?_, fun a u e n => by rw [upd_ne (ne_of_none e hD)]; exact k45.1 a u (keep a u e n) n, ?_⟩
      · have m : Mv (Avo Av (Blk B o st js D) o (wipeS st js)) (Avo Av (Blk B o st js D) o (wipeS st js)) H5 (upd H5 D (.lst (acc ++ [v]))) := ⟨fun a u n e => ⟨n, by rw [upd_ne fun (z : a = D) => n (.inl (.inr (z ▸ bD)))]; exact e⟩⟩
        have dv : DR (Avo Av (Blk B o st js D) o (wipeS st js)) H5 v d := r5.dr.mv ⟨fun a u n e => ⟨fun z => n (hav a z), e⟩⟩
        exact ((dacc4.mv (Mv.kp (fun a h => Avo.ta F h) k5)).app (.cons dv .nil)).mv m
      · simpa using hz
  · have e : i = ds.length := by omega
    subst e
    rw [List.drop_length] at hf
    have sub : ∀ a, (Avo Av B o st a ∨ a = D) → Avo Av (Blk B o st js D) o (wipeS st js) a := by
      rintro a (((z | z) | ⟨j, es, e1, e2⟩) | z)
      · exact .inl (.inl z)
      · exact .inl (.inr (.inl (.inl z)))
      · by_cases hj : j ∈ js
        · exact .inl (.inr (.inr ⟨j, es, hj, e1, e2⟩))
        · exact .inr ⟨j, es, by rw [wipeS_keep hj]; exact e1, e2⟩
      · exact .inl (.inr (.inl (.inr z)))
    have kf : Kp g H H2 := ⟨fun a u e n => keep a u (k1.1 a u e n) n, R3.kp.2⟩
    have nD : ¬ Avo Av B o st D := fun z => R1.tracked F z hD
    refine .inl ⟨wk2.1, hk true (.lst ys) (.ref D) H2 kf ⟨.lst nD hacc (dacc.mv ⟨fun a u n e => ⟨fun z => n (sub a (.inl z)), e⟩⟩), fun _ => ⟨D, acc, ys, rfl, rfl, k1.free R.kp.2 hD, hacc, dacc.mv ⟨fun a u n e => ⟨fun z => n (sub a z), e⟩⟩⟩⟩ (by simpa [wLc] using hf)⟩
/-- the parts of a comprehension, one reading for all blocks -/
theorem lc_parts {js : List Nat} (hg : ∀ i : Blks X scope, WG g (blkX X scope i) tg js bn) (ht : ∀ i : Blks X scope, WTs g (blkX X scope i) ifs tt) (he : ∀ i : Blks X scope, WE g (blkX X scope i) elt te) :
    (∃ tb, (∀ i : Blks X scope, PG (blkX X scope i) tg tb) ∧ ∀ Av B gh H0 o σ st H v d Q Qd, g.G H0 → FrOk g Av H0 → Rel g Av B gh H0 o σ st H → DR (Avo Av B o st) H v d → bn d st Qd →
      (∀ σ' st', Rel g Av B gh H0 o σ' st' H → wipe σ' js = wipe σ js → ((∀ j ∈ js, ∀ c : Ct, st[j]? ≠ some (Sl.ow c)) → ∀ a, Avo Av B o st a → Avo Av B o st' a) → Qd st' → Q σ' H) → tb v σ H Q) ∧
    (∃ tT, (∀ i : Blks X scope, PTs (blkX X scope i) ifs tT) ∧ ∀ Av B gh H0 o σ st H Q Qd, g.G H0 → FrOk g Av H0 → Rel g Av B gh H0 o σ st H → tt st Qd → (∀ b H', Kp g H H' → Qd b → Q b H') → tT σ H Q) ∧
    (∃ tE, (∀ i : Blks X scope, PE (blkX X scope i) elt tE) ∧ ∀ Av B gh H0 o σ st H Q Qd, g.G H0 → FrOk g Av H0 → Rel g Av B gh H0 o σ st H → te st Qd → (∀ fr d v H', Kp g H H' → Res (Avo Av B o st) H v fr d H' → Qd fr d → Q v H') → tE σ H Q) :=
  ⟨uni (ι := Blks X scope) (T := TG) (fun f v σ H Q => ∀ i, f i v σ H Q) (fun f i p => ⟨fun pins s σ H v u Q I r h => p.run pins s σ H v u Q I r (h i)⟩) (fun f hf Av B gh H0 o σ st H v d Q Qd a b c e f2 k i => hf i Av B gh H0 o σ st H v d Q Qd a b c e f2 k) hg,
   uni (ι := Blks X scope) (T := TT) (fun f σ H Q => ∀ i, f i σ H Q) (fun f i p => ⟨fun pins s σ H Q I h => p.run pins s σ H Q I (h i)⟩) (fun f hf Av B gh H0 o σ st H Q Qd a b c e k i => hf i Av B gh H0 o σ st H Q Qd a b c e k) ht,
   uni (ι := Blks X scope) (T := TE) (fun f σ H Q => ∀ i, f i σ H Q) (fun f i p => ⟨fun pins s σ H Q I h => p.run pins s σ H Q I (h i)⟩) (fun f hf Av B gh H0 o σ st H Q Qd a b c e k i => hf i Av B gh H0 o σ st H Q Qd a b c e k) he⟩
theorem we_lc (hc : X.calm = true) (hN : X.N.Nodup) (hi : WI g X tg iter wi) (ok : BlkOk X.N X.env.scope scope own) (hg : ∀ i : Blks X scope, WG g (blkX X scope i) tg (own.map (·.2)) bn) (ht : ∀ i : Blks X scope, WTs g (blkX X scope i) ifs tt)
    (he : ∀ i : Blks X scope, WE g (blkX X scope i) elt te) (hs : ∀ x, foldedSetIterable iter X.env x = pure x := by intro _; rfl) :
    WE g X (.ListComp elt [⟨tg, iter, ifs, 0⟩] scope pos) (fun st Q => wi st fun ds => ds.length < sizeLine ∧ wLc bn tt te (wipeS st (own.map (·.2))) ds fun ys => Q true (.lst ys)) := by
  obtain ⟨ti, pi, qi⟩ := hi
  obtain ⟨⟨tb, pb, qb⟩, ⟨tT, pt, qt⟩, ⟨tE, pe, qe⟩⟩ := lc_parts hg ht he
  refine ⟨_, pe_lc hc hN pi ok (fun s H C cl fp => pb (s, H, C, cl, fp)) (fun s H C cl fp => pt (s, H, C, cl, fp)) (fun s H C cl fp => pe (s, H, C, cl, fp)) hs, ?_⟩
  exact lc_snd _ qi qb qt qe
/-- name = [.. for ..] -/
theorem ws_setLc (i : Nat) {y : Str} {py spos : Pos} (k : Bool) (hc : X.calm = true) (hN : X.N.Nodup) (hy : X.N[i]? = some y) (hyl : X.env.scope.names.lookup y = some .local)
    (hsw : swapsWith (.ListComp elt [⟨tg, iter, ifs, 0⟩] scope pos) (some (.Name y py)) spos.line X.env = pure true)
    (hi : WI g X tg iter wi) (ok : BlkOk X.N X.env.scope scope own) (hg : ∀ i : Blks X scope, WG g (blkX X scope i) tg (own.map (·.2)) bn) (ht : ∀ i : Blks X scope, WTs g (blkX X scope i) ifs tt)
    (he : ∀ i : Blks X scope, WE g (blkX X scope i) elt te) (hs : ∀ x, foldedSetIterable iter X.env x = pure x := by intro _; rfl) :
    WS g X (.Assign [.Name y py] (.ListComp elt [⟨tg, iter, ifs, 0⟩] scope pos) spos) (fun De st => wi st fun ds => ds.length < sizeLine ∧ wLc bn tt te (wipeS st (own.map (·.2))) ds fun ys => De.nx (st.set i (if k = true then .own ys else .val (.lst ys)))) := by
  obtain ⟨ti, pi, qi⟩ := hi
  obtain ⟨⟨tb, pb, qb⟩, ⟨tT, pt, qt⟩, ⟨tE, pe, qe⟩⟩ := lc_parts hg ht he
  refine ⟨_, ps_setLc hc hN hy hyl hsw pi ok (fun s H C cl fp => pb (s, H, C, cl, fp)) (fun s H C cl fp => pt (s, H, C, cl, fp)) (fun s H C cl fp => pe (s, H, C, cl, fp)) hs, ?_⟩
  intro Av B gh H0 o σ st H E De hg F R hw K
  refine lc_snd (Qd := fun fr d => fr = true ∧ ∃ ys, d = .lst ys ∧ De.nx (st.set i (if k = true then .own ys else .val (.lst ys)))) _ qi qb qt qe Av B gh H0 o σ st H _ hg F R ?_ fun fr d v H1 k1 r1 hd => ?_
  · have mono : ∀ (P P' : List D → Prop), (∀ ys, P ys → P' ys) → P = P' ∨ True := fun _ _ _ => .inr trivial
    have e : (fun ds : List D => ds.length < sizeLine ∧ wLc bn tt te (wipeS st (own.map (·.2))) ds fun ys => (true = true ∧ ∃ zs, D.lst ys = .lst zs ∧ De.nx (st.set i (if k = true then .own zs else .val (.lst zs))))) =
        (fun ds : List D => ds.length < sizeLine ∧ wLc bn tt te (wipeS st (own.map (·.2))) ds fun ys => De.nx (st.set i (if k = true then .own ys else .val (.lst ys)))) := by
      have e2 : (fun ys : List D => (true = true ∧ ∃ zs, D.lst ys = .lst zs ∧ De.nx (st.set i (if k = true then .own zs else .val (.lst zs))))) = fun ys => De.nx (st.set i (if k = true then .own ys else .val (.lst ys))) := by
        funext ys
        apply propext
        constructor
        · rintro ⟨_, zs, e, h⟩; cases e; exact h
        · intro h; exact ⟨rfl, ys, rfl, h⟩
      rw [e2]
    rw [e]; exact hw
  · obtain ⟨rfl, ys, rfl, hd⟩ := hd
    cases k with
    | true =>
      obtain ⟨o', R'⟩ := R.ownRes F hg k1 r1 i
      exact K.nx o' _ _ H1 R' (by simpa using hd)
    | false => exact K.nx o _ _ H1 ((R.mono F k1).setVal i r1.dr) (by simpa using hd)
end
end DW
namespace DW
open PySem PySem.Spec PyProof.Rows L2

/-- a method that changes the slot's own list: what it asks of the items and the arguments, the new items -/
abbrev SemM := List D → List D → (List D → Prop) → Prop
def SM (K : PySem.W.Frag) (r : V → List V → Hp → VK → Prop) (m : SemM) : Prop := ∀ (Avs Av : Addr → Prop) (H : Hp) (p : Addr) (vs : List V) (ds : List D) (as : List V) (es : List D) (Q : VK) (Qd : List D → Prop), H p = some (.lst vs) → DRs Avs H vs ds → Rdvs Avs Av H as es → m ds es Qd →
  (∀ ds' vs', DRs Avs H vs' ds' → Qd ds' → Q .non (upd H p (.lst vs'))) → r (.ref p) as H Q
section
variable {g : Gd} {X : Cx} {s : Stmt} {e e1 e2 ei : Expr} {w w1 w2 wi : WP} {wa : WPA} {es : List Expr} {pos : Pos} {r : V → List V → Hp → VK → Prop} {m : SemM}
theorem ws_mut (i : Nat) (hs : SM X.K r m) (h : WAR g X es wa) (hp : ∀ t, PA X es t → PS X s (tDrop (tBM X.K "list" r (tVar i) t))) :
    WS g X s (fun De st => ∃ ds, st[i]? = some (.own ds) ∧ wa st fun es => m ds es fun ds' => De.nx (st.set i (.own ds'))) := by
  obtain ⟨t, p, q⟩ := h
  refine ⟨_, hp t p, fun Av B gh H0 o σ st H E De hg F R hw K => ?_⟩
  obtain ⟨ds, hi, hw⟩ := hw
  obtain ⟨e1, e2, nb, vs, e3, rr⟩ := R.own i ds hi
  refine ⟨_, e1, .inl ⟨rfl, vs, .inl (.inl e3)⟩, q Av B gh H0 o σ st H _ _ hg F R hw fun es us H1 k1 r1 hd => ?_⟩
  have R1 := R.mono F k1
  obtain ⟨_, _, _, vs1, e4, r4⟩ := R1.own i ds hi
  exact hs _ _ H1 (o i) vs1 ds us es _ _ e4 r4 r1 hd fun ds' vs' r' hn => K.nx o σ _ _ (R1.updOwn F hi r') hn
theorem ws_mut0 (i : Nat) (hs : SM X.K r m) (hp : PS X s (tDrop (tBM0 X.K "list" r (tVar i)))) :
    WS g X s (fun De st => ∃ ds, st[i]? = some (.own ds) ∧ m ds [] fun ds' => De.nx (st.set i (.own ds'))) := by
  refine ⟨_, hp, fun Av B gh H0 o σ st H E De hg F R hw K => ?_⟩
  obtain ⟨ds, hi, hw⟩ := hw
  obtain ⟨e1, e2, nb, vs, e3, rr⟩ := R.own i ds hi
  exact ⟨_, e1, .inl ⟨rfl, vs, .inl (.inl e3)⟩, hs _ (fun _ => False) H (o i) vs ds [] [] _ _ e3 rr .nil hw fun ds' vs' r' hn => K.nx o σ _ _ (R.updOwn F hi r') hn⟩
def mAppend : SemM | ds, [e], Q => e.isC = false ∧ ds.length < sizeLine ∧ Q (ds ++ [e]) | _, _, _ => False
theorem sm_append {K : PySem.W.Frag} : SM K rAppend mAppend := by
  intro Avs Av H p vs ds as es Q Qd hp r ra hm hk
  unfold mAppend at hm
  split at hm
  · obtain ⟨v, rfl, y⟩ := ra.one
    exact ⟨p, vs, v, rfl, rfl, hp, by rw [r.length]; exact hm.2.1, hk _ _ (r.app (.cons (y.dr hm.1) .nil)) hm.2.2⟩
  · exact hm.elim
def mExtend : SemM | ds, [.lst es], Q => ds.length + es.length ≤ sizeLine ∧ Q (ds ++ es) | _, _, _ => False
theorem sm_extend {K : PySem.W.Frag} : SM K rExtend mExtend := by
  intro Avs Av H p vs ds as es Q Qd hp r ra hm hk
  unfold mExtend at hm
  split at hm
  · obtain ⟨v, rfl, y⟩ := ra.one
    obtain ⟨u, ws, rfl, e, q⟩ := y.lst
    exact ⟨p, u, vs, ws, rfl, rfl, hp, e, by rw [r.length, q.length]; exact hm.1, hk _ _ (r.app q) hm.2⟩
  · exact hm.elim
def mReverse : SemM | ds, [], Q => Q ds.reverse | _, _, _ => False
theorem sm_reverse {K : PySem.W.Frag} : SM K rReverse mReverse := by
  intro Avs Av H p vs ds as es Q Qd hp r ra hm hk
  unfold mReverse at hm
  split at hm
  · cases ra
    exact ⟨p, vs, rfl, rfl, hp, hk _ _ r.rev hm⟩
  · exact hm.elim
/-- a value that may be a list is appended: it is strong -/
theorem ws_appendE (i : Nat) (h : WE g X e w) (hp : ∀ te, PE X e te → PS X s (tDrop (tBM X.K "list" rAppend (tVar i) (tCons te tNil)))) :
    WS g X s (fun De st => ∃ ds, st[i]? = some (.own ds) ∧ w st fun _ d => ds.length < sizeLine ∧ De.nx (st.set i (.own (ds ++ [d])))) := by
  obtain ⟨t, p, q⟩ := h
  refine ⟨_, hp t p, fun Av B gh H0 o σ st H E De hg F R hw K => ?_⟩
  obtain ⟨ds, hi, hw⟩ := hw
  obtain ⟨e1, e2, nb, vs, e3, rr⟩ := R.own i ds hi
  refine ⟨_, e1, .inl ⟨rfl, vs, .inl (.inl e3)⟩, q Av B gh H0 o σ st H _ _ hg F R hw fun fr d v H1 k1 r1 hd => ?_⟩
  have R1 := R.mono F k1
  obtain ⟨_, _, _, vs1, e4, r4⟩ := R1.own i ds hi
  exact ⟨o i, vs1, v, rfl, rfl, e4, by rw [r4.length]; exact hd.1, K.nx o σ _ _ (R1.updOwn F hi (r4.app (.cons r1.dr .nil))) hd.2⟩
/-- x[k] = e, x the slot's own -/
theorem ws_item (i : Nat) (h : WE g X e w) (hx : WE g X ei wi) (hp : ∀ te ti, PE X e te → PE X ei ti → PS X s (tAsg te (gSub (tVar i) ti rSetL))) :
    WS g X s (fun De st => ∃ ds, st[i]? = some (.own ds) ∧ w st fun _ d => wi st fun _ k => ∃ n j, k = .int n ∧ ixN ds.length n = some j ∧ De.nx (st.set i (.own (ds.set j d)))) := by
  obtain ⟨t, p, q⟩ := h
  obtain ⟨t2, p2, q2⟩ := hx
  refine ⟨_, hp t t2 p p2, fun Av B gh H0 o σ st H E De hg F R hw K => ?_⟩
  obtain ⟨ds, hi, hw⟩ := hw
  refine q Av B gh H0 o σ st H _ _ hg F R hw fun fr d v H1 k1 r1 hd => ?_
  have R1 := R.mono F k1
  obtain ⟨e1, e2, nb, vs, e3, rr⟩ := R1.own i ds hi
  refine ⟨_, e1, q2 Av B gh H0 o σ st H1 _ _ hg F R1 hd fun fr2 k v2 H2 k2 r2 hd2 => ?_⟩
  obtain ⟨n, j, rfl, h2, h3⟩ := hd2
  have R2 := R1.mono F k2
  obtain ⟨_, _, _, vs2, e4, r4⟩ := R2.own i ds hi
  have ev : v2 = .int n := by cases r2.dr; rfl
  exact ⟨o i, vs2, n, j, rfl, ev, e4, by rw [r4.length]; exact h2, K.nx o σ _ _ (R2.updOwn F hi (r4.set (r1.dr.mv (Mv.avo F k2)) j)) h3⟩
/-- name += e, ints -/
theorem ws_aug (i : Nat) (h : WE g X e w) (hp : ∀ te, PE X e te → PS X s (tAug i te (ipI fun i j => i + j))) :
    WS g X s (fun De st => ∃ a, st[i]? = some (.val (.int a)) ∧ w st fun _ d => ∃ b, d = .int b ∧ De.nx (st.set i (.val (.int (a + b))))) := by
  obtain ⟨t, p, q⟩ := h
  refine ⟨_, hp t p, fun Av B gh H0 o σ st H E De hg F R hw K => ?_⟩
  obtain ⟨a, hi, hw⟩ := hw
  obtain ⟨v, e1, r⟩ := R.val i _ hi
  cases r
  refine ⟨_, e1, q Av B gh H0 o σ st H _ _ hg F R hw fun fr d v H1 k1 r1 hd => ?_⟩
  obtain ⟨b, rfl, hd⟩ := hd
  have ev : v = .int b := by cases r1.dr; rfl
  exact ⟨a, b, rfl, ev, K.nx o _ _ H1 ((R.mono F k1).setVal i (.int _)) hd⟩
theorem ws_never : WS g X s (fun _ _ => False) := ⟨_, ps_never, fun Av B gh H0 o σ st H E De hg F R hw K => hw.elim⟩
theorem wss_never {ss : List Stmt} : WSs g X ss (fun _ _ => False) := ⟨_, pss_never, fun Av B gh H0 o σ st H E De hg F R hw K => hw.elim⟩
/-- a, b = e1, e2 -/
theorem ws_par (k1 k2 : Bool) (i j : Nat) (hij : i ≠ j) (h1 : WE g X e1 w1) (h2 : WE g X e2 w2) (hp : ∀ t1 t2, PE X e1 t1 → PE X e2 t2 → PS X s (tPar i j (tCons t1 (tCons t2 tNil)))) :
    WS g X s (fun De st => w1 st fun f1 d1 => w2 st fun f2 d2 => put k1 i f1 d1 st fun st1 => put k2 j f2 d2 st1 De.nx) := by
  obtain ⟨t1, p1, q1⟩ := h1
  obtain ⟨t2, p2, q2⟩ := h2
  refine ⟨_, hp t1 t2 p1 p2, fun Av B gh H0 o σ st H E De hg F R hw K => ?_⟩
  refine q1 Av B gh H0 o σ st H _ _ hg F R hw fun f1 d1 v1 H1 k1' r1 hw1 => ?_
  cases k1 with
  | false =>
    have R1 := R.mono F k1'
    refine q2 Av B gh H0 o σ st H1 _ _ hg F R1 hw1 fun f2 d2 v2 H2 k2' r2 hd => ?_
    have R2 := R1.mono F k2'
    have r1' := r1.dr.mv (Mv.avo F k2')
    refine ⟨v1, v2, rfl, ?_⟩
    have R3 := R2.setVal i r1'
    have sub : ∀ (d : D) a, Avo Av B o (st.set i (.val d)) a → Avo Av B o st a := by
      rintro d a (h | ⟨j, es, e1, e2⟩)
      · exact .inl h
      · rcases set_own e1 with ⟨_, z, _⟩ | ⟨_, z⟩
        · cases z
        · exact .inr ⟨j, es, z, e2⟩
    cases k2 with
    | false => exact K.nx o _ _ H2 (R3.setVal j (r2.dr.mv ⟨fun a u n e => ⟨fun z => n (sub _ a z), e⟩⟩)) hd
    | true =>
      obtain ⟨ds, rfl, rfl, hd⟩ := hd
      obtain ⟨p, vs, ds', rfl, e2, e3, e4, e5⟩ := r2.new rfl
      cases e2
      have R1' := (R1.setVal i (r1.dr))
      have R3' := R1'.addB F hg k2' e3 (by rw [e4]; simp)
      obtain ⟨o', R4⟩ := R3'.setOwn (fun z => (R1.bt p z).1 e3) (R1.kp.free hg e3) e4 (e5.mv ⟨fun a u n e => ⟨fun z => n (by
        rcases z with (z | z | z) | z
        · exact .inl (.inl (.inl z))
        · exact .inl (.inl (.inr z))
        · exact .inr z
        · exact .inl (sub _ a (.inr z))), e⟩⟩) j
      exact K.nx o' _ _ H2 R4 hd
  | true =>
    -- the first list is set apart while the second is made
    by_cases hf : f1 = true ∧ ∃ ds, d1 = .lst ds
    · obtain ⟨rfl, ds, rfl⟩ := hf
      obtain ⟨p, vs, ds', rfl, e2, e3, e4, e5⟩ := r1.new rfl
      cases e2
      have R1 := R.addB F hg k1' e3 (by rw [e4]; simp)
      refine q2 Av _ gh H0 o σ st H1 _ _ hg F R1 hw1 fun f2 d2 v2 H2 k2' r2 hd => ?_
      obtain ⟨ds2, _, hz, hd⟩ := hd
      cases hz
      have R2 := R1.mono F k2'
      have e4' : H2 p = some (.lst vs) := k2'.1 p _ e4 fun w => (R1.bt p (.inr rfl)).2 (g.wt _ w)
      have e5' : DRs (Avo Av (fun a => B a ∨ a = p) o st) H2 vs ds := (e5.mv ⟨fun a u n e => ⟨fun z => n (by
        rcases z with (z | z | z) | z
        · exact .inl (.inl (.inl z))
        · exact .inl (.inl (.inr z))
        · exact .inr z
        · exact .inl (.inr z)), e⟩⟩).mv (Mv.avo F k2')
      refine ⟨.ref p, v2, rfl, ?_⟩
      cases k2 with
      | false =>
        have R3 := R2.setVal j r2.dr
        have sub : ∀ (d : D) a, Avo Av (fun a => B a ∨ a = p) o (st.set j (.val d)) a → Avo Av (fun a => B a ∨ a = p) o st a := by
          rintro d a (h | ⟨j, es, e1, e2⟩)
          · exact .inl h
          · rcases set_own e1 with ⟨_, z, _⟩ | ⟨_, z⟩
            · cases z
            · exact .inr ⟨j, es, z, e2⟩
        obtain ⟨o', R4⟩ := R3.setOwn (fun z => (R.bt p z).1 e3) (R.kp.free hg e3) e4' (e5'.mv ⟨fun a u n e => ⟨fun z => n (sub _ a z), e⟩⟩) i
        rw [List.set_comm _ _ (Ne.symm hij)] at R4
        have hd' : De.nx ((st.set i (.own ds)).set j (.val d2)) := hd
        rw [List.set_comm _ _ hij] at hd'
        exact K.nx o' _ _ H2 R4 hd'
      | true =>
        obtain ⟨ds3, rfl, rfl, hd⟩ := hd
        obtain ⟨o', R3⟩ := R1.ownRes F hg k2' r2 j
        have e5'' : DRs (Avo Av (fun a => B a ∨ a = p) o' (st.set j (.own ds3))) H2 vs ds := by
          obtain ⟨p2, vs2, ds2, rfl, z2, z3, z4, z5⟩ := r2.new rfl
          have ow : o' j = p2 ∨ ¬ j < st.length := by
            by_cases hl : j < st.length
            · obtain ⟨a1, _⟩ := R3.own j ds3 (by rw [List.getElem?_set_self hl])
              rw [List.getElem?_set_self (by rw [R1.len]; exact hl)] at a1
              exact .inl (V.ref.inj (Option.some.inj (Option.some.inj a1)).symm)
            · exact .inr hl
          have same : ∀ k (es : Ct), k ≠ j → st[k]? = some (Sl.ow es) → o' k = o k := fun k es hk he => by
            obtain ⟨a1, _⟩ := R3.ow k es (by rw [List.getElem?_set_ne (Ne.symm hk)]; exact he)
            obtain ⟨b1, _⟩ := R1.ow k es he
            rw [List.getElem?_set_ne (Ne.symm hk), b1] at a1
            exact (V.ref.inj (Option.some.inj (Option.some.inj a1))).symm
          have eH1 : DRs (Avo Av (fun a => B a ∨ a = p) o st) H1 vs ds := e5.mv ⟨fun a u n e => ⟨fun z => n (by
            rcases z with (z | z | z) | z
            · exact .inl (.inl (.inl z))
            · exact .inl (.inl (.inr z))
            · exact .inr z
            · exact .inl (.inr z)), e⟩⟩
          refine eH1.mv ⟨fun a u n e => ⟨fun z => ?_, k2'.1 a u e fun w => n (Avo.ta F (g.wt a w))⟩⟩
          rcases z with z | ⟨k, es, h1, h2⟩
          · exact n (.inl z)
          · rcases set_own h1 with ⟨rfl, _, hl⟩ | ⟨nk, z⟩
            · rcases ow with ow | ow
              · rw [← h2, ow, z3] at e; cases e
              · exact ow hl
            · exact n (.inr ⟨k, es, z, by rw [← same k es nk z]; exact h2⟩)
        obtain ⟨o2, R4⟩ := R3.setOwn (fun z => (R.bt p z).1 e3) (R.kp.free hg e3) e4' e5'' i
        rw [List.set_comm _ _ (Ne.symm hij)] at R4
        have hd' : De.nx ((st.set i (.own ds)).set j (.own ds3)) := hd
        rw [List.set_comm _ _ hij] at hd'
        exact K.nx o2 _ _ H2 R4 hd'
    · -- not a list of its own: never so
      have R1 := R.mono F k1'
      refine q2 Av B gh H0 o σ st H1 _ _ hg F R1 hw1 fun f2 d2 v2 H2 k2' r2 hd => ?_
      obtain ⟨ds, h1, h2, _⟩ := hd
      exact absurd ⟨h1, ds, h2⟩ hf
end
end DW
namespace DW
open PySem PySem.Spec PyProof.Rows L2

/-! ### isinstance -/
structure InsT (K : PySem.W.Frag) (C : Addr) : Prop where
  cl : Cls K C
  ha : PySem.W.findIn K (.ref C) "__class__" = some (some (.builtin "object.__class__"))
  hn : PySem.W.specialIn K (.builtin "object.__class__") "__get__" = some (some (.builtin "getset_descriptor.__get__"))
  htk : PySem.W.takesIn K (.builtin "object.__class__") = some true
  hm : PySem.W.mroIn K C (.type "object") = some true
def D.tyv : D → Option Value
  | .non => some (.type "NoneType") | .bl _ => some (.type "bool") | .int _ => some (.type "int") | .str _ => some (.type "str")
  | .tup _ => some (.type "tuple") | .lst _ => some (.type "list") | .dK _ => some (.type "dict") | .dT _ => some (.type "dict")
  | .obj C _ => some (.ref C) | _ => none
def D.clv : D → Option Value | .ty n => some (.type n) | .rf C => some (.ref C) | _ => none
def D.clvs : List D → List Value → Prop
  | [], us => us = []
  | d :: ds, us => ∃ u us', us = u :: us' ∧ d.clv = some u ∧ D.clvs ds us'
def mIsi (K : PySem.W.Frag) : SemC
  | [x, .tup cs], Q => ∃ t us b, x.tyv = some t ∧ (∀ C fs, x = .obj C fs → InsT K C) ∧ D.clvs cs us ∧ PySem.W.kitAny K t us = some b ∧ Q false (.bl b)
  | [x, c], Q => ∃ t u b, x.tyv = some t ∧ (∀ C fs, x = .obj C fs → InsT K C) ∧ c.clv = some u ∧ PySem.W.kitOne K t u = some b ∧ Q false (.bl b)
  | _, _ => False
theorem Rdv.ty {Avs Av : Addr → Prop} {H : Hp} {K : PySem.W.Frag} {v : V} {x : D} {t : Value} (r : Rdv Avs Av H v x) (h : x.tyv = some t) (hi : ∀ C fs, x = .obj C fs → InsT K C) : TyX K H v t := by
  rcases r with r | ⟨p, vs, c, rfl, rfl, _, e, q⟩
  · cases r <;> simp only [D.tyv] at h <;> cases h
    · exact .base .non
    · exact .base (.bl _)
    · exact .base (.int _)
    · exact .base (.str _)
    · exact .base (.tup (by assumption))
    · exact .base (.lst (by assumption))
    · exact .base (.dK (by assumption))
    · exact .base (.dT (by assumption))
    · have q := hi _ _ rfl
      exact .base (.ins (by assumption) q.cl q.ha q.hn q.htk q.hm)
  · cases c with
    | lst _ => obtain ⟨ws, rfl, _⟩ := q; simp only [Ct.d, D.tyv] at h; cases h; exact .base (.lst e)
    | dK _ => obtain ⟨ws, rfl, _⟩ := q; simp only [Ct.d, D.tyv] at h; cases h; exact .base (.dK e)
    | dT _ => obtain ⟨ws, rfl, _⟩ := q; simp only [Ct.d, D.tyv] at h; cases h; exact .base (.dT e)
theorem DR.cls {Av : Addr → Prop} {H : Hp} {v : V} {c : D} {u : Value} (r : DR Av H v c) (h : c.clv = some u) : ClsV v u := by
  cases r <;> simp only [D.clv] at h <;> cases h
  · exact .ty _
  · exact .own _
theorem DRs.clss {Av : Addr → Prop} {H : Hp} : ∀ {vs : List V} {cs : List D} {us : List Value}, DRs Av H vs cs → D.clvs cs us → Paired ClsV vs us
  | _, _, _, .nil, h => by simp only [D.clvs] at h; subst h; exact .nil
  | _, _, _, .cons r rs, h => by
    obtain ⟨u, us', rfl, h1, h2⟩ := h
    exact .cons (r.cls h1) (rs.clss h2)
def rIsiA (K : PySem.W.Frag) : List V → Hp → VK → Prop := fun xs H Q => rIsi K xs H Q ∨ rIsiT K xs H Q
theorem call_isiA {X : Cx} : CallR X (.builtin "isinstance") (rIsiA X.K) := call_isi.or call_isiT
theorem sc_isi {g : Gd} {K : PySem.W.Frag} : SC g (rIsiA K) (mIsi K) := by
  intro Avs Av H ds vs Q Qd F r hm hk
  unfold mIsi at hm
  split at hm
  · obtain ⟨v, u, rfl, y, y2⟩ := r.two
    obtain ⟨t, us, b, h1, h2, h3, h4, hq⟩ := hm
    obtain ⟨p, ws, rfl, e, q, _⟩ := y2.tup
    exact .inr ⟨v, p, ws, t, us, b, rfl, e, q.clss h3, y.ty h1 h2, h4, hk _ _ _ H (Kp.refl F.gg) (.old (.bl b)) hq⟩
  · obtain ⟨v, u, rfl, y, y2⟩ := r.two
    obtain ⟨t, us, b, h1, h2, h3, h4, hq⟩ := hm
    rename_i c _
    have z := y2.dr (by cases c <;> simp [D.clv] at h3 ⊢)
    exact .inl ⟨v, u, t, us, b, rfl, z.cls h3, y.ty h1 h2, h4, hk _ _ _ H (Kp.refl F.gg) (.old (.bl b)) hq⟩
  · exact hm.elim

/-! ### a def of the text -/
def startS (N : List Str) (ds : List D) : Sx := ds.map Sl.val ++ List.replicate (N.length - ds.length) .un
theorem start_rel {g : Gd} {Av : Addr → Prop} {H : Hp} {N : List Str} {vs : List V} {ds : List D} (hg : g.G H) (r : DRs Av H vs ds) : Rel g Av (fun _ => False) (fun _ _ => False) H (fun _ => 0) (L2.start N vs) (startS N ds) H := by
  have noown : ∀ (i : Nat) (es : Ct), (startS N ds)[i]? ≠ some (Sl.ow es) := by
    intro i es h
    unfold startS at h
    rcases List.mem_append.mp (List.mem_of_getElem? h) with z | z
    · obtain ⟨d, _, e⟩ := List.mem_map.mp z; cases e
    · have := List.eq_of_mem_replicate z; cases this
  have m : Mv Av (Avo Av (fun _ => False) (fun _ => 0) (startS N ds)) H H := ⟨fun a u n e => ⟨fun z => by
    rcases z with (z | z) | ⟨i, es, h, _⟩
    · exact n z
    · exact z
    · exact noown i es h, e⟩⟩
  refine ⟨by unfold L2.start startS; simp [r.length], Kp.refl hg, fun i d e => ?_, fun i es h => absurd h (noown i es), fun i j es fs h => absurd h (noown i es), fun a h => h.elim, fun v d h => h.elim⟩
  unfold startS at e
  by_cases hl : i < ds.length
  · rw [List.getElem?_append_left (by simpa using hl), List.getElem?_map] at e
    cases q : ds[i]? with
    | none => rw [q] at e; cases e
    | some d' =>
      rw [q] at e
      cases e
      obtain ⟨v, h1, h2⟩ := r.get q
      refine ⟨v, ?_, h2.mv m⟩
      unfold L2.start
      rw [List.getElem?_append_left (by simp [r.length]; exact hl), List.getElem?_map, h1]; rfl
  · rw [List.getElem?_append_right (by simpa using hl)] at e
    have z := List.mem_of_getElem? e
    have := List.eq_of_mem_replicate z
    cases this
section
variable {g : Gd} {P : Program} {w : World} {K : PySem.W.Frag} {mg : Str → Option Value} {base : Heap} {x qual : Str} {st : Stmt} {f : Addr} {fd : FuncData} {N ps : List Str} {k n : Nat} {SP : List D → RQ → Prop} {wb : WPS}
def endD (Q : RQ) : DE := ⟨fun _ => Q false .non, Q, fun _ => False, fun _ => False⟩
theorem run_body {X : Cx} {b : List Stmt} {vs : List V} {H : Hp} {Q : VK} (h : WSs g X b wb) (hs : ∀ ds Q, ds.length = n → SP ds Q → wb (endD Q) (startS N ds)) (sp : ∀ E, spOf g n SP vs H Q E) : ∃ t, PSs X b t ∧ t { nx := fun _ H' => Q .non H', rt := Q } (L2.start N vs) H := by
  obtain ⟨hl, Av, ds, Qd, hg, F, r, hd, hq⟩ := sp E0
  obtain ⟨t, p, q⟩ := h
  refine ⟨t, p, q Av (fun _ => False) (fun _ _ => False) H _ _ _ H _ (endD Qd) hg F (start_rel hg r) (hs ds Qd (by rw [← r.length]; exact hl) hd) ?_⟩
  exact ⟨fun o σ st H' R h => hq false .non .non H' R.kp (.old .non) h, fun fr d v H' k r h => hq fr d v H' k r h, fun o σ st H' R h => h.elim, fun o σ st H' R h => h.elim⟩
/-- a def where the guards are known -/
theorem def_okG (F : Fun K x qual st f fd) (S : FnScope N ps (defScope st)) (hn : ps.length = n)
    (body : ∀ (cdv : Value) (A : Around) (fr : List Env) (s : Shared) (H : Hp) (E : XK), A.guards = some [] → Room k (A.deeper (envOfC qual (defScope st) s.heap.objs.size f cdv)) →
      WSs g (cxOf CX0 P w K mg base N qual (defScope st) f cdv A fr s H E).nox (defBody st) wb)
    (hs : ∀ ds Q, ds.length = n → SP ds Q → wb (endD Q) (startS N ds)) : FnG P w K mg base CX0 (k + 1) f fd ps (spOf g n SP) :=
  Fun.okG F S (fun vs H Q E h => h.1.trans hn.symm) fun cdv A fr s H vs Q E gd hr h => run_body (body cdv A fr s H E gd hr) hs fun _ => h
theorem def_ok (F : Fun K x qual st f fd) (S : FnScope N ps (defScope st)) (hn : ps.length = n)
    (body : ∀ (cdv : Value) (A : Around) (fr : List Env) (s : Shared) (H : Hp) (E : XK), Room k (A.deeper (envOfC qual (defScope st) s.heap.objs.size f cdv)) →
      WSs g (cxOf CX0 P w K mg base N qual (defScope st) f cdv A fr s H E).nox (defBody st) wb)
    (hs : ∀ ds Q, ds.length = n → SP ds Q → wb (endD Q) (startS N ds)) : FnOk P w K mg base CX0 (k + 1) f fd ps (spOf g n SP) :=
  F.ok S (fun vs H Q E h => h.1.trans hn.symm) fun cdv A fr s H vs Q E hr h => run_body (body cdv A fr s H E hr) hs fun _ => h
end
end DW
namespace DW
open PySem PySem.Spec PyProof.Rows L2
open Sem (wp)
open AutoSeq1 (wpAny_loadPart')

/-! ### enumerate(a tuple) -/
theorem enum_tup (t : Addr) (items : Array Value) :
    Meets (Builtin.«enumerate.__new__» ⟨[.type "enumerate", .ref t], []⟩) (fun _ R s => s.heap.IsTuple t items ∧
      R (.ok (.ret (.ref (s.heap.push { cls := .type "tuple_iterator", data := .fields #[.ref t, .int 0 0] }).objs.size)))
        { s with heap := (s.heap.push { cls := .type "tuple_iterator", data := .fields #[.ref t, .int 0 0] }).push { cls := .type "enumerate", data := .fields #[.none, .bool false, .ref s.heap.objs.size, rawInt 0, .none, .none] } }) :=
  .of_wp fun prog w A R s h => by
    obtain ⟨hp, g, d, tk, os⟩ := s
    obtain ⟨ht, h⟩ := h
    have hsub := sub_enumerate
    wp_walk using wpAny_pyIter_tuple ht
    refine wpAny_stack_any fun st => wpAny_pure ?_
    split
    · rename_i c _ _ _ _ _
      cases (c == Value.type "enumerate") <;> (wp_walk using wpAny_pyIter_tuple ht; exact ⟨_, rfl, h⟩)
    · wp_walk using wpAny_pyIter_tuple ht
      exact ⟨_, rfl, h⟩
section
variable {prog : Program} {w : World} {A : Around} {E : Value → Shared → Prop} {s : Shared}
theorem call_enum_tup {t : Addr} {items : Array Value} {Q : Value → Shared → Prop} (ht : s.heap.IsTuple t items)
    (h : ∀ h', IsEnum h' (s.heap.objs.size + 1) s.heap.objs.size 0 .none → h'.IsTupleIter s.heap.objs.size t 0 →
      (∀ b o, s.heap.get? b = some o → h'.get? b = some o) → Q (.ref (s.heap.objs.size + 1)) { s with heap := h' }) :
    wpAny (model prog w) A (call (.type "enumerate") [.ref t]) Q E s := by
  refine callType_new F.called_enumerate (by decide) (F.typeCall_enumerate_1 _) (F.newCall_enumerate_1 _) (fun obj => F.args_object_init_2 obj _) F.entry_enumerate_new (enum_tup t items) ⟨ht, ?_⟩
  let o1 : Obj := { cls := .type "tuple_iterator", data := .fields #[.ref t, .int 0 0] }
  have sz : (s.heap.push o1).objs.size = s.heap.objs.size + 1 := Heap.size_push ..
  show _ ∧ _
  rw [show (s.heap.push { cls := .type "tuple_iterator", data := .fields #[.ref t, .int 0 0] }).objs.size = s.heap.objs.size + 1 from sz]
  have he : IsEnum ((s.heap.push o1).push { cls := .type "enumerate", data := .fields #[.none, .bool false, .ref s.heap.objs.size, rawInt 0, .none, .none] }) (s.heap.objs.size + 1) s.heap.objs.size 0 .none := by
    have q := Heap.get?_push_size (s.heap.push o1) (o := { cls := .type "enumerate", data := .fields #[.none, .bool false, .ref s.heap.objs.size, rawInt 0, .none, .none] }) rfl
    rw [sz] at q; exact q
  exact ⟨⟨_, he, rfl⟩, h _ he ⟨_, Heap.get?_push_of_some _ (Heap.get?_push_size _ rfl), rfl, rfl⟩ fun b o x => Heap.get?_push_of_some _ (Heap.get?_push_of_some _ x)⟩
end
def IteT (K : PySem.W.Frag) (a : Addr) : It :=
  ⟨fun i H => ∃ xs : List V, SqT K H a xs ∧ i < xs.length, fun i H v H' => ∃ T x, v = .ref T ∧ H T = none ∧ H' = upd H T (.tup [.int (i : Nat), x]) ∧ ∀ xs, SqT K H a xs → xs[i]? = some x, fun i H => ∃ xs : List V, SqT K H a xs ∧ i = xs.length⟩
theorem turn_enumT {P : Program} {w : World} {K : PySem.W.Frag} {elts : List Expr} {kk : Nat} {tpos : Pos} (a e it : Addr) (hia : a ≠ it) (hea : e ≠ a) :
    Turn P w K (.Tuple elts kk tpos) (IteT K a) [e, it] e (fun i h => (∃ old, IsEnum h e it ((i : Nat) : Int) old) ∧ h.IsTupleIter it a i ∧ e ≠ it) where
  mem := by simp
  obj := fun i h st b hb => by
    obtain ⟨⟨old, he⟩, ⟨o, ho, hc, hd⟩, _⟩ := st
    rcases (show b = e ∨ b = it by simpa using hb) with rfl | rfl
    · exact ⟨_, he, fun v q => nomatch q⟩
    · exact ⟨o, ho, fun v q => by rw [hd] at q; cases q⟩
  keep := fun i h h' st k => let ⟨⟨old, he⟩, hi, hne⟩ := st; ⟨⟨old, k e (by simp) _ he⟩, hi.at fun o q => k it (by simp) o q, hne⟩
  item := by
    intro X hP hw hK hc i pins s σ H E I hf st hg
    subst hP hw hK
    obtain ⟨⟨old, he⟩, hit, hne⟩ := st
    obtain ⟨xs, hq, hlx⟩ := hg
    obtain ⟨its, rv, p, hz⟩ := I.tuple hq
    have hx : xs[i]? = some xs[i] := List.getElem?_eq_getElem hlx
    generalize xs[i] = x at hx
    obtain ⟨u, hu, ru⟩ := rv.get hx
    have hel : e < s.heap.objs.size := Heap.lt_size he
    have hil : it < s.heap.objs.size := by obtain ⟨_, q, _⟩ := hit; exact Heap.lt_size q
    have hlt : i < its.toArray.size := by
      have := (List.getElem?_eq_some_iff.mp hu).1
      simpa using this
    have Dr := Draws.tuple (prog := X.prog) (w := X.w) (A := X.A.in1) (show X.A.in1.handled = none from I.ok.hd hc) it a hia its.toArray
    refine wpAny_pyNext_enum_itemC Dr he ⟨hit, show s.heap.IsTuple a its.toArray from p⟩ hlt hne (by simp [hne, hea]) fun y h' tk hy ho hst hT hsz hk => ?_
    have ey : y = u := by
      have q : its.toArray[i]? = some u := by simpa using hu
      rw [show its.toArray[i]? = some y from hy] at q; exact Option.some.inj q
    subst ey
    refine ⟨_, rfl, wpAny_letOwnedTupleGo_enum (s := { s with heap := h', toks := tk + 1 }) ho fun h'' he' sb => ?_⟩
    have hT2 : h''.get? s.heap.objs.size = some { cls := .type "tuple", data := .seq #[.int i tk, y] } := (sb.2 _ (Nat.ne_of_gt hel)).trans hT
    have new : ObjOk X.prog X.w (upd H s.heap.objs.size (.tup [.int (i : Nat), x])) h'' s.heap.objs.size (.tup [.int (i : Nat), x]) :=
      ⟨by show 2 ≤ sizeLine; decide, [.int i tk, y], .cons ⟨_, rfl⟩ (.cons ru .nil), ⟨_, hT2, rfl, _, rfl⟩⟩
    have I1 : Inv X pins σ (upd H s.heap.objs.size (.tup [.int (i : Nat), x])) { s with heap := h'', toks := tk + 1 } := by
      refine I.turnedNew (ch := [e, it]) (fun b ob hb q => ?_) hf (Nat.le_refl _) new
      have n1 : b ≠ e := fun z => hb (by simp [z])
      have n2 : b ≠ it := fun z => hb (by simp [z])
      exact (sb.2 b n1).trans (hk b ob n1 n2 q)
    refine ⟨.ref s.heap.objs.size, _, I1, rfl, ⟨_, x, rfl, I.hok.fresh (Nat.le_refl _), rfl, fun ys hy => by rw [I.tuple_inj hy hq]; exact hx⟩, ⟨⟨y, ?_⟩, hst.1.at fun o q => (sb.2 it (Ne.symm hne)).trans q, hne⟩, fun b hb => ?_⟩
    · rw [show ((i + 1 : Nat) : Int) = (i : Int) + 1 by omega]; exact he'
    · have hb' : b < s.heap.objs.size := by
        rcases (show b = e ∨ b = it by simpa using hb) with rfl | rfl
        · exact hel
        · exact hil
      rw [upd_ne (Nat.ne_of_lt hb')]
      exact (hf b hb).1
  done := by
    intro X hP hw hK hc i pins s σ H E I hf st hg
    subst hP hw hK
    obtain ⟨⟨old, he⟩, hit, hne⟩ := st
    obtain ⟨xs, hq, hx⟩ := hg
    obtain ⟨its, rv, p, hz⟩ := I.tuple hq
    obtain ⟨f0, f1, f2, f3, f4, f5⟩ := hf it (by simp)
    have hn : its.toArray.size = i := by rw [List.size_toArray, ← rv.length]; exact hx.symm
    have Dr := Draws.tuple (prog := X.prog) (w := X.w) (A := X.A.in1) (show X.A.in1.handled = none from I.ok.hd hc) it a hia its.toArray
    rw [hn] at Dr
    exact wpAny_pyNext_enum_endD Dr he ⟨hit, show s.heap.IsTuple a its.toArray from p⟩ fun h' eb => ⟨rfl, I.turned (t' := s.toks) (fun b o hb q => eb b o hb q) f0 f1 f3 f4 f5⟩
  self := fun A i s Q E st h => let ⟨⟨_, he⟩, _⟩ := st; wpAny_pyIter_enum he h
/-- an iterator that stands alone in its record -/
theorem fp_one {X : Cx} {pins : List (Addr × Obj)} {σ : L2.St} {H : Hp} {s1 : Shared} (I1 : Inv X pins σ H s1) : ∀ b ∈ [s1.heap.objs.size], FpOk X pins H b := by
  intro b hb
  cases (show b = s1.heap.objs.size by simpa using hb)
  have z : s1.heap.objs.size ≤ s1.heap.objs.size := Nat.le_refl _
  exact I1.fpOk z (I1.hok.fresh z)
theorem fp_two {X : Cx} {pins : List (Addr × Obj)} {σ : L2.St} {H : Hp} {s1 : Shared} (I1 : Inv X pins σ H s1) : ∀ b ∈ [s1.heap.objs.size + 1, s1.heap.objs.size], FpOk X pins H b := by
  intro b hb
  have z : s1.heap.objs.size ≤ b := by
    rcases (show b = s1.heap.objs.size + 1 ∨ b = s1.heap.objs.size by simpa using hb) with h | h
    · rw [h]; exact Nat.le_succ _
    · rw [h]; exact Nat.le_refl _
  exact I1.fpOk z (I1.hok.fresh z)
/-- a list or a tuple, walked -/
def iSeq (K : PySem.W.Frag) (tl : TE) : TI := fun σ H R => tl σ H fun x H1 => (∃ a xs, x = .ref a ∧ H1 a = some (.lst xs) ∧ R (Itl K a) H1) ∨ ∃ a xs, x = .ref a ∧ H1 a = some (.tup xs) ∧ R (Itt K a) H1
theorem pi_seq {X : Cx} {tg l : Expr} {tl : TE} (hl : PE X l tl) : PI X tg l (iSeq X.K tl) := by
  constructor
  intro pins s σ H R I h
  refine thn (hl.run pins s σ H _ I h) ?_
  rintro v s1 ⟨x, H1, I1, r1, ⟨a, xs, rfl, hq, q⟩ | ⟨a, xs, rfl, hq, q⟩⟩
  · cases r1
    obtain ⟨its, rv, p, hz⟩ := I1.list (.inl (.inl hq))
    apply wpAny_pyIter_list p.isList
    exact ⟨_, [s1.heap.objs.size], _, _, H1, rfl, I1.kept (t' := s1.toks) (fun b o e => Heap.get?_push_of_some _ e), turn_list a _, ⟨_, Heap.get?_push_size _ rfl, rfl, rfl⟩, fp_one I1, q⟩
  · cases r1
    obtain ⟨its, rv, p, hz⟩ := I1.tuple (.inl (.inl hq))
    apply wpAny_pyIter_tuple (show s1.heap.IsTuple a its.toArray from p)
    exact ⟨_, [s1.heap.objs.size], _, _, H1, rfl, I1.kept (t' := s1.toks) (fun b o e => Heap.get?_push_of_some _ e), turn_tuple a _, ⟨_, Heap.get?_push_size _ rfl, rfl, rfl⟩, fp_one I1, q⟩
/-- enumerate of a list or a tuple -/
def iEnumA (K : PySem.W.Frag) (ta : TA) : TI := fun σ H R => ta σ H fun vs H1 => (∃ a xs, vs = [.ref a] ∧ H1 a = some (.lst xs) ∧ R (Ite K a) H1) ∨ ∃ a xs, vs = [.ref a] ∧ H1 a = some (.tup xs) ∧ R (IteT K a) H1
theorem pi_enumA {X : Cx} {e : Expr} {ta : TA} {p pos tpos : Pos} {elts : List Expr} {kk : Nat} (hg : Gl X "enumerate") (hm : X.mg "enumerate" = none) (ha : PA X [e] ta) (hs : starEach [e] X.env = [(false, eval e X.env)] := by rfl) :
    PI X (.Tuple elts kk tpos) (.Call (.Name "enumerate" p) [e] [] pos) (iEnumA X.K ta) := by
  constructor
  intro pins s σ H R I h
  refine Call_ (ld_blt I hg hm boot_enumerate (PyProof.Rows.callWith_type1 (thn (ha.run pos pins s σ H _ I h) ?_) hs rfl))
  rintro us s1 ⟨vs, H1, I1, r1, ⟨a, xs, rfl, hq, q⟩ | ⟨a, xs, rfl, hq, q⟩⟩
  · obtain ⟨u, rfl, ru⟩ := vals1 r1
    cases ru
    obtain ⟨its, rv, p', hz⟩ := I1.list (.inl (.inl hq))
    refine call_enumerate_list p'.isList fun h' he hit hsz hk => wpAny_pyIter_enum he ?_
    exact ⟨_, [s1.heap.objs.size + 1, s1.heap.objs.size], _, _, H1, rfl, I1.kept (t' := s1.toks) hk, turn_enum a _ _, ⟨⟨.none, he⟩, hit, Nat.succ_ne_self _⟩, fp_two I1, q⟩
  · obtain ⟨u, rfl, ru⟩ := vals1 r1
    cases ru
    obtain ⟨its, rv, p', hz⟩ := I1.tuple (.inl (.inl hq))
    have la : a < s1.heap.objs.size := I1.hok.lt hq
    refine call_enum_tup (show s1.heap.IsTuple a its.toArray from p') fun h' he hit hk => wpAny_pyIter_enum he ?_
    exact ⟨_, [s1.heap.objs.size + 1, s1.heap.objs.size], _, _, H1, rfl, I1.kept (t' := s1.toks) hk, turn_enumT a _ _ (Nat.ne_of_lt la) (Nat.ne_of_gt (Nat.lt_succ_of_lt la)), ⟨⟨.none, he⟩, hit, Nat.succ_ne_self _⟩, fp_two I1, q⟩
section
variable {g : Gd} {X : Cx} {tg e : Expr} {w : WP} {p pos : Pos}
def mSeq : D → (List D → Prop) → Prop | .lst ds, Q => Q ds | .tup ds, Q => Q ds | _, _ => False
theorem wi_seq (h : WE g X e w) : WI g X tg e (fun st Q => w st fun _ d => mSeq d Q) := by
  obtain ⟨t, p, q⟩ := h
  refine ⟨_, pi_seq p, fun Av B gh H0 o σ st H R Qd hg F Rl hw hk => ?_⟩
  refine q Av B gh H0 o σ st H _ _ hg F Rl hw fun fr d v H1 k1 r1 hd => ?_
  cases d <;> simp only [mSeq] at hd
  case lst ds =>
    have r := r1.dr
    cases r with
    | lst n e rs => exact .inl ⟨_, _, rfl, e, hk ds _ _ H1 k1 (oneR (.lst n e rs)) walk_list hd⟩
  case tup ds =>
    have r := r1.dr
    cases r with
    | tup n e rs => exact .inr ⟨_, _, rfl, e, hk ds _ _ H1 k1 (oneR (.tup n e rs)) walk_tup hd⟩
def enumD (ds : List D) : List D := ds.zipIdx.map fun p => D.tup [.int (p.2 : Int), p.1]
theorem enumD_get {ds : List D} {i : Nat} {d : D} (h : (enumD ds)[i]? = some d) : ∃ x, ds[i]? = some x ∧ d = .tup [.int (i : Int), x] := by
  unfold enumD at h
  rw [List.getElem?_map, List.getElem?_zipIdx] at h
  cases q : ds[i]? with
  | none => rw [q] at h; cases h
  | some x =>
    rw [q] at h
    exact ⟨x, rfl, by simpa using (Option.some.inj h).symm⟩
theorem enumD_len {ds : List D} : (enumD ds).length = ds.length := by unfold enumD; simp
theorem Fit.pair {Avs Av : Addr → Prop} {H : Hp} (F : Fit g Avs Av H) {x : V} {d : D} {i : Int} {T : Addr} (r : DR Avs H x d) (hT : H T = none) : Kp g H (upd H T (.tup [.int i, x])) ∧ DR Avs (upd H T (.tup [.int i, x])) (.ref T) (.tup [.int i, d]) := by
  obtain ⟨k, z⟩ := F.tup (vs := [.int i, x]) (ds := [.int i, d]) (.cons (.int i) (.cons r .nil)) hT
  exact ⟨k, z.dr⟩
def mEnum : D → (List D → Prop) → Prop | .lst ds, Q => Q (enumD ds) | .tup ds, Q => Q (enumD ds) | _, _ => False
theorem walk_enum {K : PySem.W.Frag} {a : Addr} {ds : List D} : Walk g (Ite K a) (one (.ref a) (.lst ds)) (enumD ds) := by
  intro Avs Av H F r0
  have r := r0 _ _ ⟨rfl, rfl⟩
  cases r with
  | lst n e rs =>
    rename_i vs
    refine ⟨⟨vs, .inl (.inl e), by rw [rs.length, enumD_len]; exact Nat.le_refl _⟩, fun i d hi => ?_⟩
    obtain ⟨x, hx, rfl⟩ := enumD_get hi
    obtain ⟨v, hv, rv⟩ := rs.get hx
    refine ⟨⟨vs, v, .inl (.inl e), hv⟩, fun y H3 hy => ?_⟩
    obtain ⟨T, z, rfl, hT, rfl, hz⟩ := hy
    have ez := hz vs (.inl (.inl e))
    rw [hv] at ez; cases ez
    exact F.pair rv hT
theorem walk_enumT {K : PySem.W.Frag} {a : Addr} {ds : List D} : Walk g (IteT K a) (one (.ref a) (.tup ds)) (enumD ds) := by
  intro Avs Av H F r0
  have r := r0 _ _ ⟨rfl, rfl⟩
  cases r with
  | tup n e rs =>
    rename_i vs
    refine ⟨⟨vs, .inl (.inl e), by rw [enumD_len]; exact rs.length.symm⟩, fun i d hi => ?_⟩
    obtain ⟨x, hx, rfl⟩ := enumD_get hi
    obtain ⟨v, hv, rv⟩ := rs.get hx
    refine ⟨⟨vs, .inl (.inl e), (List.getElem?_eq_some_iff.mp hv).1⟩, fun y H3 hy => ?_⟩
    obtain ⟨T, z, rfl, hT, rfl, hz⟩ := hy
    have ez := hz vs (.inl (.inl e))
    rw [hv] at ez; cases ez
    exact F.pair rv hT
theorem wi_enum {elts : List Expr} {kk : Nat} {tpos : Pos} (h : WE g X e w) (hg : Gl X "enumerate") (hm : X.mg "enumerate" = none) (hs : starEach [e] X.env = [(false, eval e X.env)] := by rfl) (na : starEach [e] X.env = (false, eval e X.env) :: starEach [] X.env := by rfl) :
    WI g X (.Tuple elts kk tpos) (.Call (.Name "enumerate" p) [e] [] pos) (fun st Q => w st fun _ d => mEnum d Q) := by
  obtain ⟨t, pe, q⟩ := h
  refine ⟨_, pi_enumA hg hm (pa_cons pe pa_nil na) hs, fun Av B gh H0 o σ st H R Qd hg F Rl hw hk => ?_⟩
  refine q Av B gh H0 o σ st H _ _ hg F Rl hw fun fr d v H1 k1 r1 hd => ?_
  cases d <;> simp only [mEnum] at hd
  case lst ds =>
    have r := r1.dr
    cases r with
    | lst n e rs => exact .inl ⟨_, _, rfl, e, hk _ _ _ H1 k1 (oneR (.lst n e rs)) walk_enum hd⟩
  case tup ds =>
    have r := r1.dr
    cases r with
    | tup n e rs => exact .inr ⟨_, _, rfl, e, hk _ _ _ H1 k1 (oneR (.tup n e rs)) walk_enumT hd⟩
end

/-! ### target = e, any target -/
theorem ws_asg {g : Gd} {X : Cx} {s : Stmt} {tg e : Expr} {we : WP} {js : List Nat} {b : WPG} (h : WE g X e we) (ht : WG g X tg js b) (hp : ∀ te tt, PE X e te → PG X tg tt → PS X s (tAsg te tt)) : WS g X s (fun De st => we st fun _ d => b d st De.nx) := by
  obtain ⟨t, p, q⟩ := h
  obtain ⟨t2, p2, q2⟩ := ht
  refine ⟨_, hp t t2 p p2, fun Av B gh H0 o σ st H E De hg F R hw K => ?_⟩
  refine q Av B gh H0 o σ st H _ _ hg F R hw fun fr d v H1 k1 r1 hd => ?_
  exact q2 Av B gh H0 o σ st H1 v d _ _ hg F (R.mono F k1) r1.dr hd fun σ' st' R' _ _ h => K.nx o σ' st' H1 R' h

/-! ### sorted(set(t)), t a tuple of ints -/
def rSetT (K : PySem.W.Frag) (w : World) : List V → Hp → VK → Prop := fun xs H Q => ∃ (p : Addr) (ns : List Int), xs = [V.ref p] ∧ SqT K H p (ns.map V.int) ∧ ns.length < 60 ∧ ∀ (q : Addr) (c : Nat), H q = none → c ≤ ns.length → Q (.ref q) (upd H q (SetO w q (fun j => decide (j ∈ ns)) c))
theorem cr_setT {X : Cx} (hc : X.calm = true) : CallR X (.type "set") (rSetT X.K X.w) := by
  intro pins s σ H xs us Q I r h
  obtain ⟨p, ns, rfl, hq, hl, q⟩ := h
  obtain ⟨u, rfl, ru⟩ := vals1 r
  cases ru
  obtain ⟨its, rv, pt, hz⟩ := I.tuple hq
  have hi : IntsAre its.toArray.toList ns := by simpa using (Vals.ints rv)
  refine call_set_tupI ns (I.ok.hd hc) (show s.heap.IsTuple p its.toArray from pt) hi (by unfold scanBound; omega) fun h' tk c R1 hcn k => ?_
  have fr : H s.heap.objs.size = none := I.hok.fresh (Nat.le_refl _)
  exact ⟨.ref _, _, I.laid (t' := tk) k (Nat.le_refl _) (setO_new R1), rfl, q _ c fr hcn⟩
section
variable {g : Gd} {X : Cx} {e : Expr} {w : WP} {p p2 pos pos2 : Pos}
def mSortSet : D → RQ → Prop := fun d Q => ∃ ns : List Int, d = .tup (ns.map D.int) ∧ ns.length < 60 ∧ ∀ ms : List Int, ms.Pairwise (· < ·) → (∀ k, k ∈ ms ↔ k ∈ ns) → Q true (.lst (ms.map D.int))
theorem we_sortedSet (h : WE g X e w) (hc : X.calm = true) (hg : Gl X "sorted") (hm : X.mg "sorted" = none) (hg2 : Gl X "set") (hm2 : X.mg "set" = none)
    (na : starEach [e] X.env = (false, eval e X.env) :: starEach [] X.env := by rfl) (nb : starEach [.Call (.Name "set" p2) [e] [] pos2] X.env = (false, eval (.Call (.Name "set" p2) [e] [] pos2) X.env) :: starEach [] X.env := by rfl) :
    WE g X (.Call (.Name "sorted" p) [.Call (.Name "set" p2) [e] [] pos2] [] pos) (fun st Q => w st fun _ d => mSortSet d Q) := by
  obtain ⟨t, pe, q⟩ := h
  have p1 : PE X (.Call (.Name "set" p2) [e] [] pos2) _ := pe_callTy (cr_setT hc) hg2 hm2 (by decide +kernel) (pa_cons pe pa_nil na) (he := na)
  refine ⟨_, pe_callB (cr_sortedSet hc) hg hm (by decide +kernel) (pa_cons p1 pa_nil nb) (he := nb), fun Av B gh H0 o σ st H Q Qd hg F R hw hk => ?_⟩
  refine q Av B gh H0 o σ st H _ _ hg F R hw fun fr d v H1 k1 r1 hd => ?_
  obtain ⟨ns, rfl, hl, hd⟩ := hd
  have r := r1.dr
  cases r with
  | tup n ea rs =>
    rename_i a vs
    cases rs.ints
    refine ⟨a, ns, rfl, .inl (.inl ea), hl, fun s c hs hc2 => ⟨s, _, c, rfl, upd_same, by omega, fun ms u h1 h2 h3 hu => ?_⟩⟩
    have kS : Kp g H1 (upd H1 s (SetO X.w s (fun j => decide (j ∈ ns)) c)) := Kp.new k1.2 hs
    have R2 := (R.mono F k1).mono F kS
    obtain ⟨k, z⟩ := (R2.fit F).lst (drs_ints ms) hu
    refine hk true _ _ _ ((k1.trans kS).trans k) (z.back R.kp.2 (k1.trans kS)) (hd ms h1 fun j => ?_)
    rw [h2 j, decide_eq_true_eq]
end
end DW
namespace DW
open PySem PySem.Spec PyProof.Rows L2

/-! ### how the loops are read -/
theorem wLc_map {α : Type} {b : WPG} {tt : WPT} {te : WP} {s0 : Sx} (inj : α → D) (p : α → Bool) (f : α → D) : ∀ (xs : List α) (Q : List D → Prop),
    (∀ x ∈ xs, ∀ (R1 : D → Prop) (R0 : Prop), (if p x = true then R1 (f x) else R0) → b (inj x) s0 fun st => tt st fun c => if c = true then te st fun _ y => R1 y else R0) →
    Q ((xs.filter p).map f) → wLc b tt te s0 (xs.map inj) Q
  | [], Q, _, h => h
  | x :: xs, Q, hd, h => by
    show b (inj x) s0 _
    refine hd x List.mem_cons_self (fun y => wLc b tt te s0 (xs.map inj) fun ys => Q (y :: ys)) (wLc b tt te s0 (xs.map inj) Q) ?_
    cases e : p x with
    | true =>
      simp only [if_true]
      refine wLc_map inj p f xs _ (fun y hy => hd y (List.mem_cons_of_mem _ hy)) ?_
      simpa [List.filter_cons, e] using h
    | false =>
      simp only [Bool.false_eq_true, if_false]
      refine wLc_map inj p f xs _ (fun y hy => hd y (List.mem_cons_of_mem _ hy)) ?_
      simpa [List.filter_cons, e] using h
/-- no test -/
theorem wLc_all {α : Type} {b : WPG} {te : WP} {s0 : Sx} (inj : α → D) (f : α → D) : ∀ (xs : List α) (Q : List D → Prop),
    (∀ x ∈ xs, ∀ (R1 : D → Prop), R1 (f x) → b (inj x) s0 fun st => te st fun _ y => R1 y) →
    Q (xs.map f) → wLc b (fun _ Q => Q true) te s0 (xs.map inj) Q
  | [], Q, _, h => h
  | x :: xs, Q, hd, h => by
    show b (inj x) s0 _
    exact hd x List.mem_cons_self (fun y => wLc b (fun _ Q => Q true) te s0 (xs.map inj) fun ys => Q (y :: ys)) (wLc_all inj f xs _ (fun y hy => hd y (List.mem_cons_of_mem _ hy)) h)
/-- a test that is drawn -/
theorem wLc_some {α : Type} {b : WPG} {tt : WPT} {te : WP} {s0 : Sx} (inj : α → D) (f : α → D) : ∀ (xs : List α) (Q : List D → Prop),
    (∀ x ∈ xs, ∀ (R1 : D → Prop) (R0 : Prop), R1 (f x) → R0 → b (inj x) s0 fun st => tt st fun c => if c = true then te st fun _ y => R1 y else R0) →
    (∀ ys : List α, ys.Sublist xs → Q (ys.map f)) → wLc b tt te s0 (xs.map inj) Q
  | [], Q, _, h => h [] (List.Sublist.refl _)
  | x :: xs, Q, hd, h => by
    show b (inj x) s0 _
    refine hd x List.mem_cons_self (fun y => wLc b tt te s0 (xs.map inj) fun ys => Q (y :: ys)) (wLc b tt te s0 (xs.map inj) Q) ?_ ?_
    · exact wLc_some inj f xs _ (fun y hy => hd y (List.mem_cons_of_mem _ hy)) fun ys hy => h (x :: ys) (hy.cons_cons x)
    · exact wLc_some inj f xs _ (fun y hy => hd y (List.mem_cons_of_mem _ hy)) fun ys hy => h ys (hy.cons x)
theorem wFor_inv {b : WPG} {body : WPS} {De : DE} (I : Nat → Sx → Prop) (hn : ∀ st n, I n st → True := fun _ _ _ => trivial) : ∀ (ds : List D) (k : Nat) (st : Sx), I k st →
    (∀ i d, ds[i]? = some d → ∀ st, I (k + i) st → ∀ (K : Sx → Prop), (∀ st', I (k + i + 1) st' → K st') → b d st fun st' => body ⟨K, De.rt, De.nx, K⟩ st') → (∀ st, I (k + ds.length) st → De.nx st) → wFor b body De ds st
  | [], k, st, h, _, he => he st h
  | d :: ds, k, st, h, hs, he => by
    show b d st _
    refine hs 0 d rfl st h _ fun st' h' => ?_
    refine wFor_inv I hn ds (k + 1) st' h' (fun i d hd st hi K hK => ?_) (fun st hi => he st (by rw [List.length_cons]; rwa [show k + (ds.length + 1) = k + 1 + ds.length by omega]))
    exact hs (i + 1) d (by simpa using hd) st (by rwa [show k + (i + 1) = k + 1 + i by omega]) K fun st' z => hK st' (by rwa [show k + 1 + i + 1 = k + (i + 1) + 1 by omega])

/-! ### the defs of a text -/
structure Dfn (K : PySem.W.Frag) (mg : Str → Option Value) (x qual : Str) (st : Stmt) (ps : List Str) (f : Addr) (fd : FuncData) : Prop where
  F : Fun K x qual st f fd
  b : Binds K fd ps []
  m : mg x = some (.ref f)
structure Mth (K : PySem.W.Frag) (C : Addr) (x qual : Str) (st : Stmt) (ps : List Str) (f : Addr) (fd : FuncData) : Prop where
  F : Fun K x qual st f fd
  b : Binds K fd ps []
  m : Meth K C x f
structure Bltn (mg : Str → Option Value) : Prop where
  len : mg "len" = none
  abs : mg "abs" = none
  int : mg "int" = none
  bool : mg "bool" = none
  str : mg "str" = none
  list : mg "list" = none
  tuple : mg "tuple" = none
  set : mg "set" = none
  range : mg "range" = none
  sorted : mg "sorted" = none
  repr : mg "repr" = none
  isinstance : mg "isinstance" = none
  enumerate : mg "enumerate" = none
  zip : mg "zip" = none
  any : mg "any" = none
  all : mg "all" = none
  sum : mg "sum" = none
  max : mg "max" = none
  min : mg "min" = none

/-! ### data of people and groups -/
def tI (xs : List Int) : D := .tup (xs.map D.int)
def lI (xs : List Int) : D := .lst (xs.map D.int)
def tT (rows : List (List Int)) : D := .tup (rows.map tI)
def lT (rows : List (List Int)) : D := .lst (rows.map tI)
def Gp (n : Int) (xs : List Int) : Prop := xs.Pairwise (· < ·) ∧ ∀ x ∈ xs, 0 ≤ x ∧ x < n
def rgI (n : Int) : List Int := (List.range n.toNat).map fun (i : Nat) => (i : Int)
theorem rgD_rgI (n : Int) : rgD 0 n = (rgI n).map D.int := by
  unfold rgD rgI
  rw [List.map_map, show (n - 0).toNat = n.toNat by omega]
  refine List.map_congr_left fun i _ => ?_
  show D.int (0 + (i : Int)) = D.int (i : Int)
  rw [Int.zero_add]
theorem mem_rgI {n k : Int} : k ∈ rgI n ↔ 0 ≤ k ∧ k < n := by
  unfold rgI
  rw [List.mem_map]
  constructor
  · rintro ⟨i, hi, rfl⟩
    rw [List.mem_range] at hi
    omega
  · rintro ⟨h0, h1⟩
    exact ⟨k.toNat, List.mem_range.mpr (by omega), by omega⟩
theorem rgI_lt (n : Int) : (rgI n).Pairwise (· < ·) := by
  unfold rgI
  rw [List.pairwise_map]
  exact List.pairwise_lt_range.imp fun h => by omega
theorem rgI_len (n : Int) : (rgI n).length = n.toNat := by unfold rgI; simp
theorem gp_rg (n : Int) : Gp n (rgI n) := ⟨rgI_lt n, fun x hx => mem_rgI.mp hx⟩
theorem Gp.sub {n : Int} {xs ys : List Int} (h : Gp n xs) (s : ys.Sublist xs) : Gp n ys := ⟨h.1.sublist s, fun x hx => h.2 x (s.subset hx)⟩
theorem Gp.filter {n : Int} {xs : List Int} (h : Gp n xs) (p : Int → Bool) : Gp n (xs.filter p) := h.sub List.filter_sublist
/-- lists that rise strictly are known by their members -/
theorem rise_uniq : ∀ {xs ys : List Int}, xs.Pairwise (· < ·) → ys.Pairwise (· < ·) → (∀ k, k ∈ xs ↔ k ∈ ys) → xs = ys
  | [], [], _, _, _ => rfl
  | [], y :: ys, _, _, h => absurd ((h y).mpr List.mem_cons_self) (by simp)
  | x :: xs, [], _, _, h => absurd ((h x).mp List.mem_cons_self) (by simp)
  | x :: xs, y :: ys, hx, hy, h => by
    rw [List.pairwise_cons] at hx hy
    have e : x = y := by
      have h1 := (h x).mp List.mem_cons_self
      have h2 := (h y).mpr List.mem_cons_self
      rcases List.mem_cons.mp h1 with z | z
      · exact z
      · rcases List.mem_cons.mp h2 with z2 | z2
        · exact z2.symm
        · have a := hy.1 x z
          have b := hx.1 y z2
          omega
    subst e
    rw [rise_uniq hx.2 hy.2 fun k => ?_]
    constructor
    · intro hk
      rcases List.mem_cons.mp ((h k).mp (List.mem_cons_of_mem _ hk)) with z | z
      · subst z; exact absurd (hx.1 k hk) (by omega)
      · exact z
    · intro hk
      rcases List.mem_cons.mp ((h k).mpr (List.mem_cons_of_mem _ hk)) with z | z
      · subst z; exact absurd (hy.1 k hk) (by omega)
      · exact z
theorem gp_len {n : Int} {xs : List Int} (h : Gp n xs) (hn : n ≤ 7) : xs.length ≤ 7 := by
  have key : ∀ (m : Nat) (xs : List Int), xs.Pairwise (· < ·) → (∀ x ∈ xs, 0 ≤ x ∧ x < (m : Int)) → xs.length ≤ m := by
    intro m
    induction m with
    | zero =>
      intro xs _ hb
      cases xs with
      | nil => simp
      | cons x xs => have := hb x List.mem_cons_self; omega
    | succ m ih =>
      intro xs hp hb
      have h1 := ih (xs.filter fun x => x < (m : Int)) (hp.sublist List.filter_sublist) fun x hx => by
        have := List.mem_filter.mp hx
        exact ⟨(hb x this.1).1, by simpa using this.2⟩
      have h2 : (xs.filter fun x => !(decide (x < (m : Int)))).length ≤ 1 := by
        have hq : (xs.filter fun x => !(decide (x < (m : Int)))).Pairwise (· < ·) := hp.sublist List.filter_sublist
        cases q : (xs.filter fun x => !(decide (x < (m : Int)))) with
        | nil => simp
        | cons a r =>
          cases r with
          | nil => simp
          | cons c r =>
            rw [q, List.pairwise_cons] at hq
            have a1 : a < c := hq.1 c List.mem_cons_self
            have m1 := List.mem_filter.mp (q ▸ List.mem_cons_self : a ∈ xs.filter fun x => !(decide (x < (m : Int))))
            have m2 := List.mem_filter.mp (q ▸ List.mem_cons_of_mem _ List.mem_cons_self : c ∈ xs.filter fun x => !(decide (x < (m : Int))))
            have b1 := hb a m1.1
            have b2 := hb c m2.1
            have z1 : ¬ a < (m : Int) := by simpa using m1.2
            omega
      have h3 : ∀ ys : List Int, ys.length = (ys.filter fun x => decide (x < (m : Int))).length + (ys.filter fun x => !(decide (x < (m : Int)))).length := by
        intro ys
        induction ys with
        | nil => rfl
        | cons y ys ih =>
          simp only [List.filter_cons, List.length_cons]
          cases decide (y < (m : Int)) <;> simp <;> omega
      have h3 := h3 xs
      omega
  exact key 7 xs h.1 fun x hx => ⟨(h.2 x hx).1, by have := (h.2 x hx).2; omega⟩
theorem in_ints (x : Int) : ∀ xs : List Int, inV (D.int x).fv ((xs.map D.int).map D.fv) = xs.contains x
  | [] => rfl
  | y :: xs => by
    have ih := in_ints x xs
    simp only [inV, List.map_cons, List.any_cons, List.contains_cons, D.fv] at ih ⊢
    rw [ih]
    congr 1
    show (y == x) = (x == y)
    by_cases h : x = y
    · subst h; rfl
    · rw [beq_eq_false_iff_ne.mpr h, beq_eq_false_iff_ne.mpr (Ne.symm h)]
theorem flat_ints : ∀ xs : List Int, (xs.map D.int).all D.flat = true
  | [] => rfl
  | x :: xs => by simp [D.flat, flat_ints xs]
theorem small_line {n : Nat} (h : n ≤ 1000000) : n < sizeLine := by rw [sizeLine_eq]; omega
theorem le_line {n : Nat} (h : n ≤ 1000000) : n ≤ sizeLine := Nat.le_of_lt (small_line h)
/-! ### the formulas, step by step -/
section
variable {d e : D} {ds es : List D} {st : Sx} {s : Sl} {i : Nat} {Q : RQ} {a b n : Int} {k : Bool}
theorem rdS_0 : rdS (Sl.val d :: st) 0 Q = Q false d := rfl
theorem rdS_s : rdS (s :: st) (i + 1) Q = rdS st i Q := rfl
theorem rdO_0 : rdO (Sl.val d :: st) 0 Q = Q false d := rfl
theorem rdO_1 : rdO (Sl.own ds :: st) 0 Q = Q false (.lst ds) := rfl
theorem rdO_s : rdO (s :: st) (i + 1) Q = rdO st i Q := rfl
theorem mAdd_i : mAdd (.int a) (.int b) Q = Q false (.int (a + b)) := rfl
theorem mAdd_b : mAdd (.int a) (.bl k) Q = Q false (.int (a + b2i k)) := rfl
theorem mAdd_l : mAdd (.lst ds) (.lst es) Q = (ds.length + es.length ≤ sizeLine ∧ Q true (.lst (ds ++ es))) := rfl
theorem mAdd_t : mAdd (.tup ds) (.tup es) Q = (ds.length + es.length ≤ sizeLine ∧ Q false (.tup (ds ++ es))) := rfl
theorem mI_i {f : Int → Int → Int} : mI f (.int a) (.int b) Q = Q false (.int (f a b)) := rfl
theorem mIC_i {c : Int → Int → Prop} {f : Int → Int → Int} : mIC c f (.int a) (.int b) Q = (c a b ∧ Q false (.int (f a b))) := rfl
theorem mB_i {f : Int → Int → Bool} : mB f (.int a) (.int b) Q = Q false (.bl (f a b)) := rfl
theorem mLen_l : mLen [.lst ds] Q = Q false (.int ds.length) := rfl
theorem mLen_t : mLen [.tup ds] Q = Q false (.int ds.length) := rfl
theorem mList_l : mList [.lst ds] Q = Q true (.lst ds) := rfl
theorem mList_t : mList [.tup ds] Q = Q true (.lst ds) := rfl
theorem mTuple_l : mTuple [.lst ds] Q = Q false (.tup ds) := rfl
theorem mTuple_t : mTuple [.tup ds] Q = Q false (.tup ds) := rfl
theorem mInt1_i : mInt1 [.int a] Q = Q false (.int a) := rfl
theorem mInt1_b : mInt1 [.bl k] Q = Q false (.int (if k then 1 else 0)) := rfl
theorem mAbs_i : mAbs [.int a] Q = Q false (.int (if a < 0 then -a else a)) := rfl
theorem mIx_l : mIx (.lst ds) (.int a) Q = ∃ d, atI ds a = some d ∧ Q false d := rfl
theorem mIx_t : mIx (.tup ds) (.int a) Q = ∃ d, atI ds a = some d ∧ Q false d := rfl
theorem mSl_l {lo hi : Option Int} : mSl (.lst ds) lo hi Q = Q true (.lst (cutD ds lo hi)) := rfl
theorem mSl_t {lo hi : Option Int} : mSl (.tup ds) lo hi Q = Q false (.tup (cutD ds lo hi)) := rfl
theorem mSeq_l {R : List D → Prop} : mSeq (.lst ds) R = R ds := rfl
theorem mSeq_t {R : List D → Prop} : mSeq (.tup ds) R = R ds := rfl
theorem mEnum_l {R : List D → Prop} : mEnum (.lst ds) R = R (enumD ds) := rfl
theorem mEnum_t {R : List D → Prop} : mEnum (.tup ds) R = R (enumD ds) := rfl
theorem mFld_o {f : Str} {C C' : Addr} {fs : List (Str × D)} : mFld f C (.obj C' fs) Q = (C' = C ∧ ∃ d, fs.lookup f = some d ∧ Q false d) := rfl
theorem mExt_l {R : List D → Prop} : mExtend ds [.lst es] R = (ds.length + es.length ≤ sizeLine ∧ R (ds ++ es)) := rfl
theorem mRev_l {R : List D → Prop} : mReverse ds [] R = R ds.reverse := rfl
theorem mRepr_1 : mRepr [d] Q = (d.shw ∧ Q false (.str d.shown)) := rfl
theorem put_f {R : Sx → Prop} : put false i k d st R = R (st.set i (.val d)) := rfl
theorem put_t {R : Sx → Prop} : put true i k d st R = ∃ ds, k = true ∧ d = .lst ds ∧ R (st.set i (.own ds)) := rfl
theorem frz_0 : frzS 0 (Sl.own ds :: st) = Sl.val (.lst ds) :: st := rfl
theorem frz_c {c : Ct} : frzS 0 (Sl.ow c :: st) = Sl.val c.d :: st := rfl
theorem rdO_c {c : Ct} : rdO (Sl.ow c :: st) 0 Q = Q false c.d := rfl
theorem frz_1 : frzS 0 (Sl.val d :: st) = Sl.val d :: st := rfl
theorem frz_2 : frzS 0 (Sl.un :: st) = Sl.un :: st := rfl
theorem frz_s : frzS (i + 1) (s :: st) = s :: frzS i st := by
  unfold frzS
  rw [List.getElem?_cons_succ]
  cases st[i]? with
  | none => rfl
  | some x => cases x <;> rfl
theorem wpS_0 : wipeS st [] = st := rfl
theorem wpS_1 {js : List Nat} : wipeS st (i :: js) = (wipeS st js).set i .un := rfl
end
end DW
namespace DW
open PySem PySem.Spec PyProof.Rows L2
/-! ### job lists -/
structure ClsJ (K : PySem.W.Frag) (mg : Str → Option Value) (C : Addr) : Prop where
  cl : Cls K C
  n_size : NoAttr K C "size"
  n_jobs : NoAttr K C "jobs"
  mg : mg "Jobs" = some (.ref C)
  ins : InsT K C
  isi : PySem.W.kitOne K (.ref C) (.ref C) = some true
structure IniJ (K : PySem.W.Frag) (C : Addr) (st : Stmt) (f : Addr) (fd : FuncData) : Prop where
  F : Fun K "__init__" "Jobs.__init__" st f fd
  b : Binds K fd ["self", "size", "jobs"] []
  made : Mk K C f
def jO (C : Addr) (n : Int) (rows : List (List Int)) : D := .obj C [("size", .int n), ("jobs", tT rows)]
structure good (n : Int) (rows : List (List Int)) : Prop where
  n0 : 0 ≤ n
  n7 : n ≤ 7
  len : rows.length ≤ 7
  gp : ∀ r ∈ rows, Gp n r
def spInit (g : Gd) (C : Addr) : Sp := fun vs H Q _ => ∃ (x dx : Addr) (v1 v2 : V) (n : Int) (rows : List (List Int)) (d2 : D) (Av : Addr → Prop), vs = [.ref x, v1, v2] ∧ H x = some (.ins C dx []) ∧ Av x ∧ ¬ g.T x ∧ g.G H ∧ FrOk g Av H ∧
  DR Av H v1 (.int n) ∧ DR Av H v2 d2 ∧ (d2 = lT rows ∨ d2 = tT rows) ∧ good n rows ∧
  ∀ H' t us, (∀ a o, H a = some o → a ≠ x → ¬ g.W a → H' a = some o) → g.G H' → H' x = some (.ins C dx [("size", .int n), ("jobs", .ref t)]) → H' t = some (.tup us) → ¬ Av t → DRs Av H' us (rows.map tI) → Q .non H'
def mJobs (C : Addr) (ds : List D) (Q : RQ) : Prop := ∃ n rows, (ds = [.int n, lT rows] ∨ ds = [.int n, tT rows]) ∧ good n rows ∧ Q false (jO C n rows)
theorem imm_ints : ∀ xs : List Int, D.immAll (xs.map D.int) = true
  | [] => rfl
  | x :: xs => by simp [D.immAll, D.imm, imm_ints xs]
theorem imm_rows : ∀ rows : List (List Int), D.immAll (rows.map tI) = true
  | [] => rfl
  | r :: rows => by simp [D.immAll, D.imm, tI, imm_ints r, imm_rows rows]
theorem make_J {g : Gd} {X : Cx} {e : Expr} {es : List Expr} {wa : WPA} {C : Addr} (ha : WAR g X es wa) (cj : ClsJ X.K X.mg C) (hc : ∀ t, PA X es t → PE X e (tMake C (spInit g C) [] E0 t)) : WE g X e (fun st Q => wa st fun ds => mJobs C ds Q) := by
  refine we_make ha (spInit g C) (mJobs C) hc ?_
  rintro Avs Av H vs ds Q Qd F r ⟨n, rows, hds, hgd, hq⟩ hk x dx hx hdx hne
  obtain ⟨v1, v2, d2, rfl, rfl, y1, y2, hd2⟩ : ∃ v1 v2 d2, vs = [v1, v2] ∧ ds = [.int n, d2] ∧ Rdv Avs Av H v1 (.int n) ∧ Rdv Avs Av H v2 d2 ∧ (d2 = lT rows ∨ d2 = tT rows) := by
    rcases hds with rfl | rfl
    · obtain ⟨v, u, rfl, a, b⟩ := r.two
      exact ⟨v, u, _, rfl, rfl, a, b, .inl rfl⟩
    · obtain ⟨v, u, rfl, a, b⟩ := r.two
      exact ⟨v, u, _, rfl, rfl, a, b, .inr rfl⟩
  have nx : ¬ Avs x := fun z => F.tr x z hx
  have ndx : ¬ Avs dx := fun z => F.tr dx z hdx
  let H2 := upd (upd H dx (.own x)) x (.ins C dx [])
  have keep2 : ∀ a o, H a = some o → H2 a = some o := fun a o e => by
    show upd (upd H dx (.own x)) x (.ins C dx []) a = some o
    rw [upd_ne (ne_of_none e hx), upd_ne (ne_of_none e hdx)]; exact e
  have g2 : g.G H2 := g.st H H2 (fun a ha => by
    have n1 : a ≠ x := fun e => nx (F.t1 _ (e ▸ ha))
    have n2 : a ≠ dx := fun e => ndx (F.t1 _ (e ▸ ha))
    show upd (upd H dx (.own x)) x (.ins C dx []) a = H a
    rw [upd_ne n1, upd_ne n2]) F.gg
  have m2 : Mv Av (fun a => Av a ∨ a = x) H H2 := ⟨fun a o n e => ⟨fun z => z.elim n (ne_of_none e hx), keep2 a o e⟩⟩
  refine ⟨x, dx, v1, v2, n, rows, d2, fun a => Av a ∨ a = x, rfl, upd_same, .inr rfl, fun z => nx (F.t1 x z), g2, ⟨fun a h => .inl (F.t2 a h), fun a h => fun e => ?_⟩, (y1.weak F.sub).mv m2, (y2.weak F.sub).mv m2, hd2, hgd, fun H' t us kp hg' hx' ht nt0 dr0 => ?_⟩
  · rcases h with h | rfl
    · have := F.tr a (F.sub a h)
      cases q : H a with
      | none => exact this q
      | some o => exact nomatch (keep2 a o q).symm.trans e
    · exact nomatch (show H2 a = some (.ins C dx []) from upd_same).symm.trans e
  · refine ⟨rfl, hk false _ _ H' ⟨fun a o e nw => kp a o (keep2 a o e) (ne_of_none e hx) nw, hg'⟩ (.old ?_) hq⟩
    have nt : ¬ Av t := fun z => nt0 (.inl z)
    have dr := dr0.mv (⟨fun a u n e => ⟨fun z => n (.inl z), e⟩⟩ : Mv (fun a => Av a ∨ a = x) Av H' H')
    have lists : ∀ a, Avs a → ¬ Av a → ∃ u, H' a = some u ∧ Mt u := fun a h n => by
      obtain ⟨vs, e, m⟩ := F.ol a h n
      exact ⟨vs, kp a _ (keep2 a _ e) (ne_of_none e hx) fun w => n (F.t2 a (g.wt a w)), m⟩
    have nts : ¬ Avs t := fun z => by
      obtain ⟨vs, e, m⟩ := lists t z nt
      rw [ht] at e; cases e; exact m
    exact .obj nx hx' (.cons (.int n) (.cons (.tup nts ht (DRs.imm lists dr (imm_rows rows))) .nil))
theorem putF_size {n t : V} : putF ("jobs" : Str) t (putF ("size" : Str) n []) = [(("size" : Str), n), (("jobs" : Str), t)] := by
  show (if ("size" : Str) = ("jobs" : Str) then _ else _) = _
  rw [if_neg (by decide)]; rfl
/-! ### ==, != of all that is plain: flat values of any size, or data fit to be shown -/
section
variable {g : Gd} {X : Cx} {a b : Int} {s t : Str} {d : D} {Q : RQ}
def rEqF (X : Cx) : R2 := fun x y H Q => rEq x y H Q ∨ rEqD X.K x y H Q
def rNeF (X : Cx) : R2 := fun x y H Q => rNe x y H Q ∨ rNeD X.K x y H Q
theorem op_eqF (hu : X.A.units + 64 < cLine) : OpR X (compareOp .Eq) (rEqF X) := op_eq.or (op_eqD hu)
theorem op_neF (hu : X.A.units + 64 < cLine) : OpR X (compareOp .NotEq) (rNeF X) := op_ne.or (op_neD hu)
def mEqF : Sem2 := fun x y Q => (x.flat = true ∧ y.flat = true ∧ scal x.fv y.fv = true ∧ Q false (.bl (decide (x.fv = y.fv)))) ∨ mEq x y Q
def mNeF : Sem2 := fun x y Q => (x.flat = true ∧ y.flat = true ∧ scal x.fv y.fv = true ∧ Q false (.bl (!decide (x.fv = y.fv)))) ∨ mNe x y Q
theorem Rdv.fl {Avs Av : Addr → Prop} {H : Hp} {v : V} {d : D} (h : Rdv Avs Av H v d) (f : d.flat = true) : v = d.fv := ((h.dr (by cases d <;> simp [D.flat] at f ⊢)).flat f).1
theorem s2_eqF : S2 g (rEqF X) mEqF := by
  intro Avs Av H x y vx vy Q Qd F rx ry hm hk
  rcases hm with ⟨f1, f2, sc, q⟩ | hm
  · rw [rx.fl f1, ry.fl f2]
    exact .inl ⟨sc, hk false _ _ H (Kp.refl F.gg) (.old (.bl _)) q⟩
  · exact .inr (s2_eq Avs Av H x y vx vy Q Qd F rx ry hm hk)
theorem s2_neF : S2 g (rNeF X) mNeF := by
  intro Avs Av H x y vx vy Q Qd F rx ry hm hk
  rcases hm with ⟨f1, f2, sc, q⟩ | hm
  · rw [rx.fl f1, ry.fl f2]
    exact .inl ⟨sc, hk false _ _ H (Kp.refl F.gg) (.old (.bl _)) q⟩
  · exact .inr (s2_ne Avs Av H x y vx vy Q Qd F rx ry hm hk)
theorem eq_int (h : Q false (.bl (decide (a = b)))) : mEqF (.int a) (.int b) Q := .inl ⟨rfl, rfl, rfl, by
  rw [show decide ((D.int a).fv = (D.int b).fv) = decide (a = b) by simp [D.fv]]; exact h⟩
theorem ne_int (h : Q false (.bl (!decide (a = b)))) : mNeF (.int a) (.int b) Q := .inl ⟨rfl, rfl, rfl, by
  rw [show decide ((D.int a).fv = (D.int b).fv) = decide (a = b) by simp [D.fv]]; exact h⟩
theorem eq_str (h : Q false (.bl (decide (s = t)))) : mEqF (.str s) (.str t) Q := .inl ⟨rfl, rfl, rfl, by
  rw [show decide ((D.str s).fv = (D.str t).fv) = decide (s = t) by simp [D.fv]]; exact h⟩
theorem eqv_me (h : d.tiny = true) : PyData.eqv d.py d.py = true := PySem.SeqAt.eqv_refl _ (tiny_lay d h).1
theorem eq_me (h : d.shw) (q : Q false (.bl true)) : mEqF d d Q := .inr ⟨⟨h.1, h.2.2⟩, ⟨h.1, h.2.2⟩, by rw [eqv_me h.1]; exact q⟩
theorem eq_data {e : D} (h : d.shw) (h2 : e.shw) (q : Q false (.bl (PyData.eqv d.py e.py))) : mEqF d e Q := .inr ⟨⟨h.1, h.2.2⟩, ⟨h2.1, h2.2.2⟩, q⟩
end
end DW
namespace DW
open PySem PySem.Spec PyProof.Rows L2
/-! ### == by a class's own __eq__ -/
def rOwn (C : Addr) (sp : Sp) (E : XK) : R2 := fun x y H Q => ∃ a b dx dy fs gs, x = .ref a ∧ y = .ref b ∧ H a = some (.ins C dx fs) ∧ H b = some (.ins C dy gs) ∧ sp [x, y] H (fun v H' => ∃ k, v = .bl k ∧ Q (.bl k) H') E
theorem op_eqO {X : Cx} {CX : CXT} {n : Nat} {C f : Addr} {fd : FuncData} {ps : List Str} {sp : Sp} {E : XK} (F : FnOk X.prog X.w X.K X.mg X.base CX n f fd ps sp)
    (hs : PySem.W.findIn X.K (.ref C) "__eq__" = some (some (.ref f))) (hf : PySem.W.isFn X.K (.ref f) = true) (hb : Binds X.K fd ps []) (hx : Passes CX X E) (hr : Room n X.A) : OpR X (compareOp .Eq) (rOwn C sp E) := by
  intro pins s σ H x y u v Q I rx ry d
  obtain ⟨a, b, dx, dy, fs, gs, rfl, rfl, ha, hb', hsp⟩ := d
  cases rx
  cases ry
  show wpAny (model X.prog X.w) X.A (richCompare .Eq (.ref a) (.ref b)) (EP X pins σ Q) X.xe s
  obtain ⟨mA, J, _⟩ := ins_get I.hok ha
  obtain ⟨mB, J', _⟩ := ins_get I.hok hb'
  obtain ⟨od, J, _⟩ := J.look
  obtain ⟨od', J', _⟩ := J'.look
  obtain ⟨m, hF⟩ := I.fr
  refine PySem.W.cmp_K (op := .Eq) (tb := .ref C) hr.units0 hF I.ok.mod.kin J J'.type (by simp [PySem.W.notFirst]) hs hf ?_
  have e0 : Env0 X.prog X.w X.K X.mg X.base X.A X.stack s H := I.env0
  have hl := F.len _ _ _ _ hsp
  have r2 : Vals [V.ref a, V.ref b] [Value.ref a, Value.ref b] := .cons rfl (.cons rfl .nil)
  refine wpAny_call (codeAny_mono (F.run X.A X.stack s H ⟨[.ref a, .ref b], []⟩ [.ref a, .ref b] [.ref a, .ref b] _ E hr e0 (by
    have := hb s [.ref a, .ref b] I.kIn (by simpa using hl)
    simpa using this) r2 hsp) fun r s' hq => ?_)
  cases r with
  | error e => exact hx pins σ H s e s' I hq
  | ok fl =>
    cases fl with
    | ret w =>
      obtain ⟨z, H', I', rz, k, ez, q⟩ := I.after hq
      subst ez
      cases rz
      exact ⟨.bl k, H', I', rfl, q⟩
    | next => exact False.elim hq
    | brk => exact False.elim hq
    | cont => exact False.elim hq
def mEqO (C : Addr) (SP : List D → RQ → Prop) : Sem2 := fun x y Q => ∃ fs gs, x = .obj C fs ∧ y = .obj C gs ∧ SP [x, y] fun _ d => ∃ k, d = .bl k ∧ Q false (.bl k)
theorem s2_eqO {g : Gd} {C : Addr} {SP : List D → RQ → Prop} : S2 g (rOwn C (spOf g 2 SP) E0) (mEqO C SP) := by
  intro Avs Av H x y vx vy Q Qd F rx ry hm hk
  obtain ⟨fs, gs, rfl, rfl, hm⟩ := hm
  have r1 := rx.dr (by simp)
  have r2 := ry.dr (by simp)
  cases id r1 with
  | obj n1 e1 q1 =>
    cases id r2 with
    | obj n2 e2 q2 =>
      refine ⟨_, _, _, _, _, _, rfl, rfl, e1, e2, rfl, Avs, _, _, F.gg, ⟨F.t1, F.tr⟩, .cons r1 (.cons r2 .nil), hm, ?_⟩
      rintro fr d v H' k r ⟨c, rfl, hq⟩
      have r := r.dr
      cases r
      exact ⟨c, rfl, hk false _ _ H' k (.old (.bl c)) hq⟩
/-! ### the law's script -/
def KList (K : PySem.W.Frag) (a : Addr) (xs : List V) : Prop := ∃ (o : Obj) (its : Array Value) (n : Nat), K.lookup a = some o ∧ o.cls = .type "list" ∧ o.dict = none ∧ o.data = .seq its n ∧ its.size ≤ sizeLine ∧ Vals xs its.toList
def gS (K : PySem.W.Frag) (a : Addr) (xs : List V) (tr : Prop) : Gd where
  W := fun _ => False
  T := fun b => tr ∧ b = a
  G := fun H => (tr ∧ Rd H a (.lst xs)) ∨ (¬ tr ∧ KList K a xs)
  wt := fun a h => h.elim
  st := fun H H' e h => by
    rcases h with ⟨t, h⟩ | h
    · left
      refine ⟨t, ?_⟩
      have := e a ⟨t, rfl⟩
      rcases h with h | ⟨o, h⟩
      · exact .inl (this.trans h)
      · exact .inr ⟨o, this.trans h⟩
    · exact .inr h
  tr := fun H h b hb => by
    obtain ⟨t, rfl⟩ := hb
    rcases h with ⟨_, h⟩ | ⟨n, _⟩
    · rcases h with h | ⟨o, h⟩ <;> rw [h] <;> simp
    · exact absurd t n
theorem gS_sq {K : PySem.W.Frag} {a : Addr} {xs : List V} {tr : Prop} {H : Hp} (h : (gS K a xs tr).G H) : SqL K H a xs := by
  rcases h with ⟨_, h⟩ | ⟨_, h⟩
  · exact .inl h
  · exact .inr h
theorem gS_of {K : PySem.W.Frag} {a : Addr} {xs : List V} {H : Hp} (h : SqL K H a xs) : (gS K a xs (Rd H a (.lst xs))).G H := by
  by_cases t : Rd H a (.lst xs)
  · exact .inl ⟨t, t⟩
  · rcases h with h | h
    · exact absurd h t
    · exact .inr ⟨t, h⟩
theorem cut_ints (ns : List Int) (k : Nat) : cutV (ns.map V.int) none (some (k : Int)) = (ns.take k).map V.int := by
  unfold cutV
  rw [HT.sIx_none, HT.sIx_nat, List.drop_zero, Nat.sub_zero, ← List.map_take]
  by_cases h : k ≤ ns.length
  · rw [List.length_map, Nat.min_eq_left h]
  · rw [List.length_map, Nat.min_eq_right (by omega), List.take_of_length_le (by omega), List.take_of_length_le (by omega)]
theorem we_sliceS {X : Cx} {a : Addr} {ns : List Int} {tr : Prop} {e : Expr} {i j : Nat} {p1 p2 pos : Pos} {k : Nat} (h : PE X e (tVar i)) (hz : k ≤ 1000) :
    WE (gS X.K a (ns.map V.int) tr) X (.Subscript e (.Slice none (some (.Constant (.int (k : Int)) j p1)) none p2) pos) (fun st Q => st[i]? = some (.val (.rf a)) ∧ Q true (.lst ((ns.take k).map D.int))) := by
  refine ⟨_, pe_slice sl_list h po_none (po_some pe_int), fun Av B gh H0 o σ st H Q Qd hg F R hw hk => ?_⟩
  obtain ⟨hi, hq⟩ := hw
  obtain ⟨v, e1, r⟩ := R.val i _ hi
  cases r
  refine ⟨_, e1, _, rfl, a, _, rfl, gS_sq R.kp.2, fun p hp => ?_⟩
  rw [cut_ints]
  obtain ⟨kp, r⟩ := (R.fit F).lst (drs_ints (ns.take k)) hp
  exact hk true _ _ _ kp r hq
/-! ### a reading that is chosen later -/
theorem wss_ex {ι : Type} {P : ι → Prop} {g : ι → Gd} {X : Cx} {ss : List Stmt} {w : ι → WPS} (h : ∀ i, P i → WSs (g i) X ss (w i)) :
    ∃ t, PSs X ss t ∧ ∀ i, P i → ∀ Av B gh H0 o σ st H E De, (g i).G H0 → FrOk (g i) Av H0 → Rel (g i) Av B gh H0 o σ st H → w i De st → EndsOk (g i) Av B gh H0 E De → t E σ H := by
  refine ⟨fun E σ H => ∃ i, ∃ p : P i, (h i p).choose E σ H, ⟨fun pins s σ H E I hh => ?_⟩, fun i p Av B gh H0 o σ st H E De a b c d e => ⟨i, p, (h i p).choose_spec.2 Av B gh H0 o σ st H E De a b c d e⟩⟩
  obtain ⟨i, p, z⟩ := hh
  exact (h i p).choose_spec.1.run pins s σ H E I z
/-! ### rows, told apart -/
theorem eqv_ints : ∀ r s : List Int, PyData.eqvAll (D.pyAll (r.map D.int)) (D.pyAll (s.map D.int)) = decide (r = s)
  | [], [] => rfl
  | [], y :: s => rfl
  | x :: r, [] => rfl
  | x :: r, y :: s => by
    have ih := eqv_ints r s
    simp only [List.map_cons, D.pyAll, PyData.eqvAll, D.py, PyData.eqv, ih]
    rw [Bool.eq_iff_iff]
    simp
theorem eqv_rows : ∀ r s : List (List Int), PyData.eqvAll (D.pyAll (r.map tI)) (D.pyAll (s.map tI)) = decide (r = s)
  | [], [] => rfl
  | [], y :: s => rfl
  | x :: r, [] => rfl
  | x :: r, y :: s => by
    have ih := eqv_rows r s
    simp only [List.map_cons, D.pyAll, PyData.eqvAll, tI, D.py, PyData.eqv, ih, eqv_ints]
    rw [Bool.eq_iff_iff]
    simp
end DW
namespace DW
open PySem PySem.Spec PyProof.Rows L2
/-! ### insert, pop(i) as statements -/
section
variable {g : Gd} {X : Cx} {s : Stmt} {e ei : Expr} {w wi : WP}
theorem ws_insertE {r : V → List V → Hp → VK → Prop} (hr : ∀ (l : Addr) (xs : List V) (i : Int) (y : V) (H : Hp) (Q : VK), H l = some (.lst xs) → xs.length < sizeLine → 0 ≤ i → i < 2 ^ 63 → Q .non (upd H l (.lst (xs.take i.toNat ++ [y] ++ xs.drop i.toNat))) → r (.ref l) [.int i, y] H Q)
    (j : Nat) (hi : WE g X ei wi) (h : WE g X e w) (hp : ∀ ti te, PE X ei ti → PE X e te → PS X s (tDrop (tBM X.K "list" r (tVar j) (tCons ti (tCons te tNil))))) :
    WS g X s (fun De st => ∃ ds, st[j]? = some (.own ds) ∧ wi st fun _ k => w st fun _ d => ∃ i : Nat, k = .int (i : Int) ∧ i ≤ 1000 ∧ ds.length < sizeLine ∧ De.nx (st.set j (.own (ds.take i ++ [d] ++ ds.drop i)))) := by
  obtain ⟨t2, p2, q2⟩ := hi
  obtain ⟨t, p, q⟩ := h
  refine ⟨_, hp t2 t p2 p, fun Av B gh H0 o σ st H E De hg F R hw K => ?_⟩
  obtain ⟨ds, hj, hw⟩ := hw
  obtain ⟨e1, e2, nb, vs, e3, rr⟩ := R.own j ds hj
  refine ⟨_, e1, .inl ⟨rfl, vs, .inl (.inl e3)⟩, q2 Av B gh H0 o σ st H _ _ hg F R hw fun fr k v1 H1 k1 r1 hw1 => ?_⟩
  have R1 := R.mono F k1
  refine q Av B gh H0 o σ st H1 _ _ hg F R1 hw1 fun fr2 d v2 H2 k2 r2 hd => ?_
  obtain ⟨i, rfl, hi, hz, hd⟩ := hd
  have R2 := R1.mono F k2
  obtain ⟨_, _, _, vs1, e4, r4⟩ := R2.own j ds hj
  have ev : v1 = .int (i : Int) := by cases r1.dr; rfl
  subst ev
  refine hr _ vs1 _ _ _ _ e4 (by rw [r4.length]; exact hz) (by omega) (by omega) ?_
  rw [Int.toNat_natCast]
  exact K.nx o σ _ _ (R2.updOwn F hj (((r4.take i).app (.cons r2.dr .nil)).app (r4.drop i))) hd
theorem ws_popAt (j : Nat) (hi : WE g X ei wi) (hp : ∀ ti, PE X ei ti → PS X s (tDrop (tBM X.K "list" rPopAt (tVar j) (tCons ti tNil)))) :
    WS g X s (fun De st => ∃ ds, st[j]? = some (.own ds) ∧ wi st fun _ k => ∃ i : Nat, k = .int (i : Int) ∧ i < ds.length ∧ i ≤ 1000 ∧ De.nx (st.set j (.own (ds.eraseIdx i)))) := by
  obtain ⟨t2, p2, q2⟩ := hi
  refine ⟨_, hp t2 p2, fun Av B gh H0 o σ st H E De hg F R hw K => ?_⟩
  obtain ⟨ds, hj, hw⟩ := hw
  obtain ⟨e1, e2, nb, vs, e3, rr⟩ := R.own j ds hj
  refine ⟨_, e1, .inl ⟨rfl, vs, .inl (.inl e3)⟩, q2 Av B gh H0 o σ st H _ _ hg F R hw fun fr k v1 H1 k1 r1 hd => ?_⟩
  obtain ⟨i, rfl, hil, hi, hd⟩ := hd
  have R1 := R.mono F k1
  obtain ⟨_, _, _, vs1, e4, r4⟩ := R1.own j ds hj
  have ev : v1 = .int (i : Int) := by cases r1.dr; rfl
  subst ev
  have hl : i < vs1.length := by rw [r4.length]; exact hil
  refine ⟨_, vs1, (i : Int), i, vs1[i], rfl, rfl, e4, by omega, by omega, ?_, List.getElem?_eq_getElem hl, K.nx o σ _ _ (R1.updOwn F hj (r4.erase i)) hd⟩
  unfold seqIndex?
  have h1 : ¬ ((i : Int) < 0) := by omega
  simp only [if_neg h1]
  have h2 : (decide (0 ≤ (i : Int)) && decide ((i : Int) < (vs1.length : Int))) = true := by simp; omega
  rw [if_pos h2, Int.toNat_natCast]
/-! ### zip of two tuples -/
def zipD (ds es : List D) : List D := (ds.zip es).map fun p => D.tup [p.1, p.2]
theorem zipD_get {ds es : List D} {i : Nat} {d : D} (h : (zipD ds es)[i]? = some d) : ∃ x y, ds[i]? = some x ∧ es[i]? = some y ∧ d = .tup [x, y] := by
  unfold zipD at h
  rw [List.getElem?_map] at h
  cases q : (ds.zip es)[i]? with
  | none => rw [q] at h; cases h
  | some p =>
    rw [q] at h
    cases h
    obtain ⟨h1, h2⟩ := List.getElem?_zip_eq_some.mp q
    exact ⟨_, _, h1, h2, rfl⟩
theorem walk_zipT {K : PySem.W.Frag} {a b : Addr} {ds es : List D} : Walk g (RZ.ItzT K a b) (fun v d => one (.ref a) (.tup ds) v d ∨ one (.ref b) (.tup es) v d) (zipD ds es) := by
  intro Avs Av2 H' F' r0
  have r1 := r0 _ _ (.inl ⟨rfl, rfl⟩)
  have r2 := r0 _ _ (.inr ⟨rfl, rfl⟩)
  cases r1 with
  | tup n1 e1 s1 =>
  cases r2 with
  | tup n2 e2 s2 =>
    rename_i va vb
    refine ⟨⟨va, vb, .inl (.inl e1), .inl (.inl e2), ?_⟩, fun i d hi => ?_⟩
    · unfold zipD
      rw [List.length_map, List.length_zip, s1.length, s2.length]
      omega
    · obtain ⟨x, y, hx, hy, rfl⟩ := zipD_get hi
      obtain ⟨vx, hvx, rx⟩ := s1.get hx
      obtain ⟨vy, hvy, ry⟩ := s2.get hy
      refine ⟨⟨va, vb, vx, vy, .inl (.inl e1), .inl (.inl e2), hvx, hvy⟩, fun z H3 hz => ?_⟩
      obtain ⟨T, x', y', rfl, hT, rfl, hx', hy'⟩ := hz
      have ex := hx' va (.inl (.inl e1))
      have ey := hy' vb (.inl (.inl e2))
      rw [hvx] at ex; cases ex
      rw [hvy] at ey; cases ey
      obtain ⟨k, z⟩ := F'.tup (vs := [vx, vy]) (ds := [x, y]) (.cons rx (.cons ry .nil)) hT
      exact ⟨k, z.dr⟩
def mZip : D → D → (List D → Prop) → Prop | .tup ds, .tup es, Q => Q (zipD ds es) | _, _, _ => False
theorem wi_zip {a b : Expr} {wa wb : WP} {p pos tpos : Pos} {elts : List Expr} {kk : Nat} (ha : WE g X a wa) (hb : WE g X b wb) (hg : Gl X "zip") (hm : X.mg "zip" = none)
    (hs : starEach [a, b] X.env = (false, eval a X.env) :: starEach [b] X.env := by rfl) (hs2 : starEach [b] X.env = (false, eval b X.env) :: starEach [] X.env := by rfl) (hpl : (backTo pos (starEach [b] X.env)).any (·.1) = false := by rfl) :
    WI g X (.Tuple elts kk tpos) (.Call (.Name "zip" p) [a, b] [] pos) (fun st Q => wa st fun _ d => wb st fun _ e => mZip d e Q) := by
  obtain ⟨t, p1, q1⟩ := ha
  obtain ⟨t2, p2, q2⟩ := hb
  refine ⟨_, RZ.pi_zipA hg hm (pa_cons p1 (pa_cons p2 pa_nil hs2) hs) hs hpl, fun Av B gh H0 o σ st H R Qd hg F Rl hw hk => ?_⟩
  refine q1 Av B gh H0 o σ st H _ _ hg F Rl hw fun fr d v H1 k1 r1 hw1 => ?_
  refine q2 Av B gh H0 o σ st H1 _ _ hg F (Rl.mono F k1) hw1 fun fr2 e v2 H2 k2 r2 hd => ?_
  cases d <;> cases e <;> simp only [mZip] at hd
  case tup.tup ds es =>
    have z1 := r1.dr.mv (Mv.avo F k2)
    have z2 := r2.dr
    have RL2 := (Rl.mono F k1).mono F k2
    cases z1 with
    | tup na ea ra =>
      cases z2 with
      | tup nb eb rb =>
        rename_i pa va pb vb
        refine ⟨pa, pb, va, vb, rfl, .inr ⟨.inl (.inl ea), .inl (.inl eb), ?_⟩⟩
        exact hk (zipD ds es) _ (RZ.ItzT X.K pa pb) H2 (k1.trans k2) (by
          rintro v d (⟨rfl, rfl⟩ | ⟨rfl, rfl⟩)
          · exact .tup na ea ra
          · exact .tup nb eb rb) walk_zipT hd
/-! ### len(set(t)) -/
def tLenSetT (K : PySem.W.Frag) (ta : TE) : TE := fun σ H Q => ta σ H fun x H1 => ∃ (l : Addr) (ns : List Int), x = .ref l ∧ SqT K H1 l (ns.map V.int) ∧ ns.length < 60 ∧ ∀ c : Nat, (c = ns.length ↔ ns.Nodup) → Q (.int c) H1
theorem nodup_less : ∀ {ns ks : List Int}, ks.Nodup → (∀ k, k ∈ ns ↔ k ∈ ks) → ks.length ≤ ns.length ∧ (ks.length = ns.length → ns.Nodup)
  | [], ks, _, h => by
    cases ks with
    | nil => exact ⟨Nat.le_refl _, fun _ => List.nodup_nil⟩
    | cons k ks => exact absurd ((h k).mpr List.mem_cons_self) (by simp)
  | x :: ns, ks, hk, h => by
    by_cases hx : x ∈ ns
    · obtain ⟨a, _⟩ := nodup_less (ns := ns) hk fun k => by
        rw [← h k, List.mem_cons]
        exact ⟨.inr, fun z => z.elim (fun z => z ▸ hx) id⟩
      rw [List.length_cons]
      exact ⟨by omega, fun e => by omega⟩
    · have hxk : x ∈ ks := (h x).mp List.mem_cons_self
      obtain ⟨a, b⟩ := nodup_less (ns := ns) (ks := ks.erase x) (hk.erase x) fun k => by
        rw [hk.mem_erase_iff, ← h k, List.mem_cons]
        constructor
        · exact fun z => ⟨fun e => hx (e ▸ z), .inr z⟩
        · rintro ⟨n, z | z⟩
          · exact absurd z n
          · exact z
      rw [List.length_erase_of_mem hxk] at a b
      have hp : 0 < ks.length := List.length_pos_of_mem hxk
      rw [List.length_cons]
      exact ⟨by omega, fun e => List.nodup_cons.mpr ⟨hx, b (by omega)⟩⟩
theorem nodup_count {ks ns : List Int} (hk : ks.Nodup) (h : ∀ k, k ∈ ns ↔ k ∈ ks) : ks.length = ns.length ↔ ns.Nodup := by
  refine ⟨(nodup_less hk h).2, fun hn => Nat.le_antisymm (nodup_less hk h).1 (nodup_less hn fun k => (h k).symm).1⟩
theorem pe_lenSetT {e : Expr} {ta : TE} {p p2 q pos : Pos} (hc : X.calm = true) (hg : Gl X "len") (hm : X.mg "len" = none) (hg2 : Gl X "set") (hm2 : X.mg "set" = none) (ha : PE X e ta)
    (na : starEach [e] X.env = (false, eval e X.env) :: starEach [] X.env := by rfl) : PE X (.Call (.Name "len" p) [.Call (.Name "set" p2) [e] [] q] [] pos) (tLenSetT X.K ta) := by
  refine ⟨fun pins s σ H Q I h => ?_⟩
  refine Call_ (ld_blt I hg hm PySem.boot_len ?_)
  refine PyProof.Rows.callWith_builtin1 (PyProof.Rows.args_cons ?_ rfl) rfl rfl
  refine Call_ (ld_blt I hg2 hm2 PyProof.Rows.boot_set ?_)
  refine PyProof.Rows.callWith_type1 (PyProof.Rows.args_cons (thn (ha.run pins s σ H _ I h) fun v s1 hv => PyProof.Rows.args_nil ?_) na) na rfl
  obtain ⟨x, H1, I1, r1, l, ns, rfl, hq, h1, q1⟩ := hv
  cases r1
  obtain ⟨its, r, pl, hz⟩ := I1.tuple hq
  refine call_set_tupI ns (I1.ok.hd hc) (show s1.heap.IsTuple l its.toArray from pl) (by simpa using (Vals.ints r)) (by unfold scanBound; omega) fun h' tk c hS hcn hk => ?_
  refine PyProof.Rows.args_nil ?_
  obtain ⟨o, es, ep, t, ho, hex, hd, _, hnd, hmem, _, hf, hn, _⟩ := hS
  have I2 : Inv X pins σ H1 { s1 with heap := h', toks := tk } := I1.kept hk
  have cnt : c = ns.length ↔ ns.Nodup := by
    rw [← hn, show es.size = (es.toList.map keyOf).length by simp]
    exact nodup_count hnd fun k => by rw [← hmem k, decide_eq_true_eq]
  refine call_len_set ho hex hd hf (by rw [hn] <;> omega) ⟨.int (c : Int), H1, I2.tok _, ⟨_, by rw [hn]⟩, q1 c cnt⟩
def mLenSet : D → RQ → Prop := fun d Q => ∃ ns : List Int, d = .tup (ns.map D.int) ∧ ns.length < 60 ∧ ∀ c : Nat, (c = ns.length ↔ ns.Nodup) → Q false (.int (c : Int))
theorem we_lenSet {p p2 q pos : Pos} (h : WE g X e w) (hc : X.calm = true) (hg : Gl X "len") (hm : X.mg "len" = none) (hg2 : Gl X "set") (hm2 : X.mg "set" = none)
    (na : starEach [e] X.env = (false, eval e X.env) :: starEach [] X.env := by rfl) : WE g X (.Call (.Name "len" p) [.Call (.Name "set" p2) [e] [] q] [] pos) (fun st Q => w st fun _ d => mLenSet d Q) := by
  obtain ⟨t, pe, qe⟩ := h
  refine ⟨_, pe_lenSetT hc hg hm hg2 hm2 pe na, fun Av B gh H0 o σ st H Q Qd hG F R hw hk => ?_⟩
  refine qe Av B gh H0 o σ st H _ _ hG F R hw fun fr d v H1 k1 r1 hd => ?_
  obtain ⟨ns, rfl, hl, hd⟩ := hd
  have r := r1.dr
  cases r with
  | tup n ea rs =>
    cases rs.ints
    exact ⟨_, ns, rfl, .inl (.inl ea), hl, fun c hcn => hk false _ _ H1 k1 (.old (.int _)) (hd c hcn)⟩
/-! ### a < b < c as a test -/
theorem wt_chain {a b c : Expr} {wa wb wc : WP} {op op' : CmpOp} {r r' : R2} {m m' : Sem2} {pos : Pos} (ho : OpR X (compareOp op) r) (ho' : OpR X (compareOp op') r') (hs : S2 g r m) (hs' : S2 g r' m') (ha : WR g X a wa) (hb : WR g X b wb) (hc : WR g X c wc)
    (pc : ∀ {ta tb tc}, PE X a ta → PE X b tb → PE X c tc → PT X (.Compare a [op, op'] [b, c] pos) (tTest (tChain r r' ta tb tc))) :
    WT g X (.Compare a [op, op'] [b, c] pos) (fun st Q => wa st fun _ x => wb st fun _ y => m x y fun _ z => ∃ k, z = .bl k ∧ (if k = true then wc st fun _ u => m' y u fun _ z => ∃ c, z = .bl c ∧ Q c else Q false)) := by
  obtain ⟨t, p, q⟩ := ha
  obtain ⟨t2, p2, q2⟩ := hb
  obtain ⟨t3, p3, q3⟩ := hc
  refine ⟨_, pc p p2 p3, fun Av B gh H0 o σ st H Q Qd hg F R hw hk => ?_⟩
  have T1 : ∀ a, g.T a → Avo Av B o st a := fun a h => Avo.ta F h
  have T2 : ∀ a, g.T a → (Av a ∨ B a) := fun a h => .inl (F.ta a h)
  refine q Av B gh H0 o σ st H _ _ hg F R hw fun fr d v H1 k1 r1 hw1 => ?_
  refine q2 Av B gh H0 o σ st H1 _ _ hg F (R.mono F k1) hw1 fun fr2 d2 v2 H2 k2 r2 hd => ?_
  refine hs _ _ H2 d d2 v v2 _ _ (((R.mono F k1).mono F k2).fit F) (r1.mono T1 T2 k2) r2 hd fun fr d3 v3 H3 k3 r3 hq => ?_
  obtain ⟨k, rfl, hq⟩ := hq
  have e3 : v3 = .bl k := by cases r3.dr; rfl
  refine ⟨k, e3, ?_⟩
  cases k with
  | true =>
    simp only [if_true] at hq ⊢
    refine q3 Av B gh H0 o σ st H3 _ _ hg F (R.mono F ((k1.trans k2).trans k3)) hq fun fr4 d4 v4 H4 k4 r4 hd4 => ?_
    refine hs' _ _ H4 d2 d4 v2 v4 _ _ ((R.mono F (((k1.trans k2).trans k3).trans k4)).fit F) (r2.mono T1 T2 (k3.trans k4)) r4 hd4 fun fr5 d5 v5 H5 k5 r5 hq5 => ?_
    obtain ⟨c5, rfl, hq5⟩ := hq5
    have e5 : v5 = .bl c5 := by cases r5.dr; rfl
    exact ⟨c5, e5, hk c5 H5 ((((k1.trans k2).trans k3).trans k4).trans k5) hq5⟩
  | false =>
    simp only [Bool.false_eq_true, if_false] at hq ⊢
    exact ⟨false, rfl, hk false H3 ((k1.trans k2).trans k3) hq⟩
end
theorem WSs.imp {g : Gd} {X : Cx} {ss : List Stmt} {w w' : WPS} (h : WSs g X ss w) (hw : ∀ De st, w' De st → w De st) : WSs g X ss w' := by
  obtain ⟨t, p, q⟩ := h
  exact ⟨t, p, fun Av B gh H0 o σ st H E De a b c d e => q Av B gh H0 o σ st H E De a b c (hw De st d) e⟩
/-- items that are drawn -/
theorem wLc_any {α : Type} {b : WPG} {te : WP} {s0 : Sx} (inj : α → D) (P : D → Prop) : ∀ (xs : List α) (Q : List D → Prop),
    (∀ x ∈ xs, ∀ (R1 : D → Prop), (∀ y, P y → R1 y) → b (inj x) s0 fun st => te st fun _ y => R1 y) →
    (∀ ys : List D, ys.length = xs.length → (∀ y ∈ ys, P y) → Q ys) → wLc b (fun _ Q => Q true) te s0 (xs.map inj) Q
  | [], Q, _, h => h [] rfl fun y hy => nomatch hy
  | x :: xs, Q, hd, h => by
    show b (inj x) s0 _
    refine hd x List.mem_cons_self (fun y => wLc b (fun _ Q => Q true) te s0 (xs.map inj) fun ys => Q (y :: ys)) fun y hy => ?_
    exact wLc_any inj P xs _ (fun z hz => hd z (List.mem_cons_of_mem _ hz)) fun ys hl hp => h (y :: ys) (by simp [hl]) fun z hz => by
      rcases List.mem_cons.mp hz with rfl | hz
      · exact hy
      · exact hp z hz
end DW
namespace DW
open PySem PySem.Spec PyProof.Rows L2
/-! ### +, -, | .. of two instances of a class of one's own; o[i]; v in o -/
theorem back_rel {v : V} {u : Value} {P : Value → Shared → Prop} {s : Shared} (r : L2.RelV v u) (h : P u s) : PySem.W.CmpBack P u s := by
  cases v <;> simp only [L2.RelV] at r
  all_goals first
    | (subst r; exact h)
    | (obtain ⟨t, rfl⟩ := r; exact h)
def rOwn2 (C : Addr) (sp : Sp) (E : XK) : R2 := fun x y H Q => ∃ a b dx dy fs gs, x = .ref a ∧ y = .ref b ∧ H a = some (.ins C dx fs) ∧ H b = some (.ins C dy gs) ∧ sp [x, y] H Q E
section
variable {X : Cx} {CX : CXT} {n : Nat} {C f : Addr} {fd : FuncData} {ps : List Str} {sp : Sp} {E : XK}
theorem op_binO {op : Operator} (F : FnOk X.prog X.w X.K X.mg X.base CX n f fd ps sp) (hs : PySem.W.findIn X.K (.ref C) (PySem.dunder op.info.2) = some (some (.ref f))) (hf : PySem.W.isFn X.K (.ref f) = true) (hb : Binds X.K fd ps []) (hc : PySem.W.selfFirst X.K C = true)
    (hx : Passes CX X E) (hr : Room n X.A) : OpR X (binaryOp op) (rOwn2 C sp E) := by
  intro pins s σ H x y u v Q I rx ry d
  obtain ⟨a, b, dx, dy, fs, gs, rfl, rfl, ha, hb', hsp⟩ := d
  cases rx
  cases ry
  obtain ⟨mA, J, _⟩ := ins_get I.hok ha
  obtain ⟨mB, J', _⟩ := ins_get I.hok hb'
  obtain ⟨od, J, _⟩ := J.look
  obtain ⟨od', J', _⟩ := J'.look
  obtain ⟨m, hF⟩ := I.fr
  refine PySem.W.binop_K hF I.ok.mod.kin J J'.type hc hs hf ?_
  have e0 : Env0 X.prog X.w X.K X.mg X.base X.A X.stack s H := I.env0
  have hl := F.len _ _ _ _ hsp
  have r2 : Vals [V.ref a, V.ref b] [Value.ref a, Value.ref b] := .cons rfl (.cons rfl .nil)
  refine wpAny_call (codeAny_mono (F.run X.A X.stack s H ⟨[.ref a, .ref b], []⟩ [.ref a, .ref b] [.ref a, .ref b] _ E hr e0 (by
    have := hb s [.ref a, .ref b] I.kIn (by simpa using hl)
    simpa using this) r2 hsp) fun r s' hq => ?_)
  cases r with
  | error e => exact hx pins σ H s e s' I hq
  | ok fl =>
    cases fl with
    | ret w =>
      have z := I.after hq
      obtain ⟨z0, H', I', rz, q⟩ := id z
      exact back_rel rz z
    | next => exact False.elim hq
    | brk => exact False.elim hq
    | cont => exact False.elim hq
def mBinO (C : Addr) (SP : List D → RQ → Prop) : Sem2 := fun x y Q => ∃ fs gs, x = .obj C fs ∧ y = .obj C gs ∧ SP [x, y] Q
theorem s2_binO {g : Gd} {SP : List D → RQ → Prop} : S2 g (rOwn2 C (spOf g 2 SP) E0) (mBinO C SP) := by
  intro Avs Av H x y vx vy Q Qd F rx ry hm hk
  obtain ⟨fs, gs, rfl, rfl, hm⟩ := hm
  have r1 := rx.dr (by simp)
  have r2 := ry.dr (by simp)
  cases id r1 with
  | obj n1 e1 q1 =>
    cases id r2 with
    | obj n2 e2 q2 => exact ⟨_, _, _, _, _, _, rfl, rfl, e1, e2, rfl, Avs, _, _, F.gg, ⟨F.t1, F.tr⟩, .cons r1 (.cons r2 .nil), hm, hk⟩
/-- o[i] by the class's own __getitem__ -/
def rItemO (C : Addr) (sp : Sp) (E : XK) : R2 := fun x y H Q => ∃ a dx fs, x = .ref a ∧ H a = some (.ins C dx fs) ∧ sp [x, y] H Q E
theorem item_O (F : FnOk X.prog X.w X.K X.mg X.base CX n f fd ps sp) (hs : PySem.W.findIn X.K (.ref C) "__getitem__" = some (some (.ref f))) (hf : PySem.W.isFn X.K (.ref f) = true) (hb : Binds X.K fd ps []) (hq : PySem.W.noSeq X.K C = true)
    (hx : Passes CX X E) (hr : Room n X.A) : OpR X getItem (rItemO C sp E) := by
  intro pins s σ H x y u v Q I rx ry d
  obtain ⟨a, dx, fs, rfl, ha, hsp⟩ := d
  cases rx
  obtain ⟨mA, J, _⟩ := ins_get I.hok ha
  obtain ⟨od, J, _⟩ := J.look
  obtain ⟨m, hF⟩ := I.fr
  refine PySem.W.getItem_K hF I.ok.mod.kin J hq hs hf ?_
  have hl := F.len _ _ _ _ hsp
  refine wpAny_call (codeAny_mono (F.run X.A X.stack s H ⟨[.ref a, v], []⟩ [.ref a, v] [.ref a, y] _ E hr I.env0 (by
    have := hb s [.ref a, v] I.kIn (by simpa using hl)
    simpa using this) (.cons rfl (.cons ry .nil)) hsp) fun r s' hq => ?_)
  cases r with
  | error e => exact hx pins σ H s e s' I hq
  | ok fl =>
    cases fl with
    | ret w => exact I.after hq
    | next => exact False.elim hq
    | brk => exact False.elim hq
    | cont => exact False.elim hq
/-- len(o) by the class's own __len__ -/
def rLenO (C : Addr) (sp : Sp) (E : XK) : List V → Hp → VK → Prop := fun xs H Q => ∃ a dx fs, xs = [.ref a] ∧ H a = some (.ins C dx fs) ∧ sp [.ref a] H (fun v H' => ∃ k : Nat, v = .int (k : Int) ∧ k ≤ 1000000 ∧ Q v H') E
theorem len_O (F : FnOk X.prog X.w X.K X.mg X.base CX n f fd ps sp) (hs : PySem.W.findIn X.K (.ref C) "__len__" = some (some (.ref f))) (hf : PySem.W.isFn X.K (.ref f) = true) (hb : Binds X.K fd ps [])
    (hx : Passes CX X E) (hr : Room (n + 1) X.A) : CallR X (.builtin "len") (rLenO C sp E) := by
  intro pins s σ H xs us Q I r d
  obtain ⟨a, dx, fs, rfl, ha, hsp⟩ := d
  obtain ⟨u, rfl, ru⟩ := vals1 r
  cases ru
  obtain ⟨mA, J, _⟩ := ins_get I.hok ha
  obtain ⟨od, J, _⟩ := J.look
  obtain ⟨m, hF⟩ := I.fr
  refine PySem.W.len_K hF I.ok.mod.kin J hs hf ?_
  have hl := F.len _ _ _ _ hsp
  have e0 : Env0 X.prog X.w X.K X.mg X.base X.A.in1 X.stack s H := by
    have e := I.env0
    exact ⟨e.frames, e.mod, e.bs, e.bsz, e.funs, e.frf, e.hok, e.bare⟩
  refine wpAny_call (codeAny_mono (F.run X.A.in1 X.stack s H ⟨[.ref a], []⟩ [.ref a] [.ref a] _ E hr.in1 e0 (by
    have := hb s [.ref a] I.kIn (by simpa using hl)
    simpa using this) (.cons rfl .nil) hsp) fun r s' hq => ?_)
  cases r with
  | error e => exact hx pins σ H s e s' I hq
  | ok fl =>
    cases fl with
    | ret w =>
      obtain ⟨z, H', I', rz, k, ez, hk, q⟩ := I.after hq
      subst ez
      obtain ⟨t, rfl⟩ := rz
      exact ⟨⟨by omega, by omega⟩, .int (k : Int), H', I'.tok _, ⟨_, rfl⟩, q⟩
    | next => exact False.elim hq
    | brk => exact False.elim hq
    | cont => exact False.elim hq
end
end DW
namespace DW
open PySem PySem.Spec PyProof.Rows L2
/-! ### what may be raised -/
/-- the fields of an error of one's own: none, or those of its own dict -/
def XR (Av : Addr → Prop) (H : Hp) (d : Option Addr) (fs : List (Str × D)) : Prop := (d = none ∧ fs = []) ∨ ∃ (dd : Addr) (fv : List (Str × V)), d = some dd ∧ ¬ Av dd ∧ H dd = some (.xd fv) ∧ DRf Av H fv fs
abbrev XQ := Addr → List (Str × D) → Prop
theorem XR.mv {Av Av' : Addr → Prop} {H H' : Hp} {d : Option Addr} {fs : List (Str × D)} (m : Mv Av Av' H H') (h : XR Av H d fs) : XR Av' H' d fs := by
  rcases h with h | ⟨dd, fv, e, n, h, r⟩
  · exact .inl h
  · exact .inr ⟨dd, fv, e, (m.go _ _ n h).1, (m.go _ _ n h).2, DRf.mv m r⟩
/-- a promise of a def that may raise -/
def spX (g : Gd) (n : Nat) (SP : List D → RQ → XQ → Prop) : Sp := fun vs H Q E => vs.length = n ∧ ∃ (Av : Addr → Prop) (ds : List D) (Qd : RQ) (Xd : XQ), g.G H ∧ FrOk g Av H ∧ DRs Av H vs ds ∧ SP ds Qd Xd ∧
  (∀ fr d v H', Kp g H H' → Res Av H v fr d H' → Qd fr d → Q v H') ∧ (∀ C fs d H', Kp g H H' → XR Av H' d fs → Xd C fs → E (.ref C) d H')
abbrev WPX := Sx → RQ → XQ → Prop
/-- an expression that may raise; W: what is wished of what it raises -/
def WEX (g : Gd) (X : Cx) (W : WX) (e : Expr) (w : WPX) : Prop := ∃ t, PE X e t ∧ ∀ Av B gh H0 o σ st H Q Qd Xd, g.G H0 → FrOk g Av H0 → Rel g Av B gh H0 o σ st H → w st Qd Xd →
  (∀ fr d v H', Kp g H H' → Res (Avo Av B o st) H v fr d H' → Qd fr d → Q v H') → (∀ C fs d H', Kp g H H' → XR (Avo Av B o st) H' d fs → Xd C fs → W (.ref C) d σ H') → t σ H Q
section
variable {g : Gd} {X : Cx} {W : WX} {e : Expr} {es : List Expr} {wa : WPA} {w : WP} {n : Nat} {SP : List D → RQ → XQ → Prop}
theorem DW.WE.x (h : DW.WE g X e w) : WEX g X W e (fun st Q _ => w st Q) := by
  obtain ⟨t, p, q⟩ := h
  exact ⟨t, p, fun Av B gh H0 o σ st H Q Qd Xd hg F R hw hk _ => q Av B gh H0 o σ st H Q Qd hg F R hw hk⟩
theorem we_callX (ha : WA g X es wa) (hc : ∀ t, PA X es t → PE X e (tCallS (spX g n SP) (fun σ cls d H => W cls d σ H) t)) : WEX g X W e (fun st Q Xd => wa st fun ds => ds.length = n ∧ SP ds Q Xd) := by
  obtain ⟨t, p, q⟩ := ha
  refine ⟨_, hc t p, fun Av B gh H0 o σ st H Q Qd Xd hg F R hw hk hx => ?_⟩
  refine q Av B gh H0 o σ st H _ _ hg F R hw fun ds vs H1 k1 r1 hd => ?_
  refine ⟨by simpa [r1.length] using hd.1, Avo Av B o st, ds, Qd, Xd, k1.2, (R.mono F k1).frok F, by simpa using r1, hd.2, fun fr d v H' k r hq => ?_, fun C fs d H' k r h => hx C fs d H' (k1.trans k) r h⟩
  exact hk fr d v H' (k1.trans k) (r.back R.kp.2 k1) hq
/-- a def that does not raise, of one argument that may -/
theorem we_call1X {SP1 : List D → RQ → Prop} {e1 : Expr} {wx : WPX} (h : WEX g X W e1 wx) (hc : ∀ t, PE X e1 t → PE X e (tCall (spOf g 1 SP1) [] E0 (tCons t tNil))) : WEX g X W e (fun st Q Xd => wx st (fun _ d => SP1 [d] Q) Xd) := by
  obtain ⟨t, p, q⟩ := h
  refine ⟨_, hc t p, fun Av B gh H0 o σ st H Q Qd Xd hg F R hw hk hx => ?_⟩
  refine q Av B gh H0 o σ st H _ _ Xd hg F R hw (fun fr d v H1 k1 r1 hd => ?_) hx
  refine ⟨rfl, Avo Av B o st, [d], Qd, k1.2, (R.mono F k1).frok F, .cons r1.dr .nil, hd, fun fr2 d2 v2 H' k r hq => ?_⟩
  exact hk fr2 d2 v2 H' (k1.trans k) (r.back R.kp.2 k1) hq
/-! ### statements -/
abbrev WPSX := DE → XQ → Sx → Prop
def WSX (g : Gd) (X : Cx) (W : WX) (s : Stmt) (w : WPSX) : Prop := ∃ t, PS X s t ∧ ∀ Av B gh H0 o σ st H E De Xd, g.G H0 → FrOk g Av H0 → Rel g Av B gh H0 o σ st H → w De Xd st → EndsOk g Av B gh H0 E De →
  (∀ o σ st C fs d H', Rel g Av B gh H0 o σ st H' → XR (Avo Av B o st) H' d fs → Xd C fs → W (.ref C) d σ H') → t E σ H
def WSsX (g : Gd) (X : Cx) (W : WX) (ss : List Stmt) (w : WPSX) : Prop := ∃ t, PSs X ss t ∧ ∀ Av B gh H0 o σ st H E De Xd, g.G H0 → FrOk g Av H0 → Rel g Av B gh H0 o σ st H → w De Xd st → EndsOk g Av B gh H0 E De →
  (∀ o σ st C fs d H', Rel g Av B gh H0 o σ st H' → XR (Avo Av B o st) H' d fs → Xd C fs → W (.ref C) d σ H') → t E σ H
theorem WS.x {s : Stmt} {w : WPS} (h : WS g X s w) : WSX g X W s (fun De _ st => w De st) := by
  obtain ⟨t, p, q⟩ := h
  exact ⟨t, p, fun Av B gh H0 o σ st H E De Xd hg F R hw K _ => q Av B gh H0 o σ st H E De hg F R hw K⟩
theorem WSs.x {ss : List Stmt} {w : WPS} (h : WSs g X ss w) : WSsX g X W ss (fun De _ st => w De st) := by
  obtain ⟨t, p, q⟩ := h
  exact ⟨t, p, fun Av B gh H0 o σ st H E De Xd hg F R hw K _ => q Av B gh H0 o σ st H E De hg F R hw K⟩
/-- what does not raise is told in the calm context -/
theorem WSs.nox {ss : List Stmt} {w : WPS} (h : WSs g X.nox ss w) : WSs g X ss w := by
  obtain ⟨t, p, q⟩ := h
  exact ⟨t, p.nox, q⟩
theorem WT.nox {c : Expr} {w : WPT} (h : WT g X.nox c w) : WT g X c w := by
  obtain ⟨t, p, q⟩ := h
  exact ⟨t, p.nox, q⟩
variable {s : Stmt} {ss rest : List Stmt} {wx : WPX} {u u2 : WPSX} {pos : Pos}
theorem wssx_one (h : WSX g X W s u) : WSsX g X W [s] u := let ⟨t, p, q⟩ := h; ⟨t, pss_one p, q⟩
theorem wssx_cons (h : WSX g X W s u) (hr : WSsX g X W rest u2) : WSsX g X W (s :: rest) (fun De Xd st => u { De with nx := u2 De Xd } Xd st) := by
  obtain ⟨t, p, q⟩ := h
  obtain ⟨t2, p2, q2⟩ := hr
  refine ⟨_, pss_cons p p2, fun Av B gh H0 o σ st H E De Xd hg F R hw K hx => ?_⟩
  exact q Av B gh H0 o σ st H _ _ Xd hg F R hw ⟨fun o σ st H R h => q2 Av B gh H0 o σ st H E De Xd hg F R h K hx, K.rt, K.bk, K.ct⟩ hx
theorem wsx_if {c : Expr} {a b : List Stmt} {tc : WPT} {wa wb : WPSX} (hc : WT g X c tc) (ha : WSsX g X W a wa) (hb : WSsX g X W b wb) : WSX g X W (.If c a b pos) (fun De Xd st => tc st fun k => if k = true then wa De Xd st else wb De Xd st) := by
  obtain ⟨t, p, q⟩ := hc
  obtain ⟨t1, p1, q1⟩ := ha
  obtain ⟨t2, p2, q2⟩ := hb
  refine ⟨_, ps_if p p1 p2, fun Av B gh H0 o σ st H E De Xd hg F R hw K hx => ?_⟩
  refine q Av B gh H0 o σ st H _ _ hg F R hw fun c H1 k1 hd => ?_
  cases c with
  | true => exact q1 Av B gh H0 o σ st H1 E De Xd hg F (R.mono F k1) hd K hx
  | false => exact q2 Av B gh H0 o σ st H1 E De Xd hg F (R.mono F k1) hd K hx
/-- name = e, e may raise -/
theorem wsx_set (i : Nat) (h : WEX g X W e wx) (hp : ∀ te, PE X e te → PS X s (tAsg te (gName i))) : WSX g X W s (fun De Xd st => wx st (fun _ d => De.nx (st.set i (.val d))) Xd) := by
  obtain ⟨t, p, q⟩ := h
  refine ⟨_, hp t p, fun Av B gh H0 o σ st H E De Xd hg F R hw K hx => ?_⟩
  exact q Av B gh H0 o σ st H _ _ Xd hg F R hw (fun fr d v H1 k1 r1 hd => K.nx _ _ _ H1 ((R.mono F k1).setVal i r1.dr) hd) fun C fs d H' k r h => hx o σ st C fs d H' (R.mono F k) r h
/-- return e, e may raise -/
theorem wsx_ret (h : WEX g X W e wx) : WSX g X W (.Return (some e) pos) (fun De Xd st => wx st De.rt Xd) := by
  obtain ⟨t, p, q⟩ := h
  refine ⟨_, ps_ret p, fun Av B gh H0 o σ st H E De Xd hg F R hw K hx => ?_⟩
  exact q Av B gh H0 o σ st H _ _ Xd hg F R hw (fun fr d v H1 k1 r1 hd => K.rt fr d v H1 (R.kp.trans k1) (r1.out hg R) hd) fun C fs d H' k r h => hx o σ st C fs d H' (R.mono F k) r h
/-- raise C() -/
theorem wsx_raise0 {C : Addr} (hc : X.calm = true) (tk : Takes X W) (he : PMk X e (fun _ H Q => Q (.ref C) none H)) : WSX g X W (.Raise (some e) none pos) (fun _ Xd _ => Xd C []) := by
  refine ⟨_, ps_raise hc tk he, fun Av B gh H0 o σ st H E De Xd hg F R hw K hx => ?_⟩
  exact hx o σ st C [] none H R (.inl ⟨rfl, rfl⟩) hw
end
end DW
namespace DW
open PySem PySem.Spec PyProof.Rows L2
section
variable {g : Gd} {X : Cx} {W : WX} {e : Expr} {es : List Expr} {wa : WPA} {pos : Pos}
/-- C(v), an error of one field -/
def tMk1 (C : Addr) (fl : Str) (ta : TA) : L2.St → Hp → XK → Prop := fun σ H Q => ta σ H fun vs H1 => ∃ v, vs = [v] ∧ ∀ d, H1 d = none → Q (.ref C) (some d) (upd H1 d (.xd [(fl, v)]))
theorem wsx_raise1 {C : Addr} {fl : Str} (hc : X.calm = true) (tk : Takes X W) (ha : WA g X es wa) (he : ∀ ta, PA X es ta → PMk X e (tMk1 C fl ta)) : WSX g X W (.Raise (some e) none pos) (fun _ Xd st => wa st fun ds => ∃ v, ds = [v] ∧ Xd C [(fl, v)]) := by
  obtain ⟨t, p, q⟩ := ha
  refine ⟨_, ps_raise hc tk (he t p), fun Av B gh H0 o σ st H E De Xd hg F R hw K hx => ?_⟩
  refine q Av B gh H0 o σ st H _ _ hg F R hw fun ds vs H1 k1 r1 hd => ?_
  obtain ⟨v, rfl, hd⟩ := hd
  obtain ⟨v1, rfl, r⟩ : ∃ v1, vs = [v1] ∧ DR (Avo Av B o st) H1 v1 v := by
    cases r1 with
    | cons r r0 => cases r0; exact ⟨_, rfl, r⟩
  refine ⟨v1, rfl, fun d hn => ?_⟩
  have R1 := R.mono F k1
  have kp : Kp g H1 (upd H1 d (.xd [(fl, v1)])) := Kp.new k1.2 hn
  exact hx o σ st C _ (some d) _ (R1.mono F kp) (.inr ⟨d, _, rfl, fun z => R1.tracked F z hn, upd_same, .cons (r.mv (Mv.avo F kp)) .nil⟩) hd
end
section
variable {g : Gd} {P : Program} {w : World} {K : PySem.W.Frag} {mg : Str → Option Value} {base : Heap} {x qual : Str} {st : Stmt} {f : Addr} {fd : FuncData} {N ps : List Str} {k n : Nat} {SP : List D → RQ → XQ → Prop} {wb : WPSX}
theorem def_okX (F : Fun K x qual st f fd) (S : FnScope N ps (defScope st)) (hn : ps.length = n)
    (body : ∀ (cdv : Value) (A : Around) (fr : List Env) (s : Shared) (H : Hp) (E : XK), Room k (A.deeper (envOfC qual (defScope st) s.heap.objs.size f cdv)) →
      WSsX g (cxOf (L2.CX P w) P w K mg base N qual (defScope st) f cdv A fr s H E) (fun cls d _ H' => E cls d H') (defBody st) wb)
    (hs : ∀ ds Q Xd, ds.length = n → SP ds Q Xd → wb (endD Q) Xd (startS N ds)) : FnOk P w K mg base (L2.CX P w) (k + 1) f fd ps (spX g n SP) :=
  F.okX S (fun vs H Q E h => h.1.trans hn.symm) fun cdv A fr s H vs Q E hr h => by
    obtain ⟨hl, Av, ds, Qd, Xd, hg, FO, r, hd, hq, hx⟩ := h
    obtain ⟨t, p, q⟩ := body cdv A fr s H E hr
    refine ⟨t, p, q Av (fun _ => False) (fun _ _ => False) H (fun _ => 0) _ _ H _ (endD Qd) Xd hg FO (start_rel hg r) (hs ds Qd Xd (by rw [← r.length]; exact hl) hd)
      ⟨fun o σ st H' R h => hq false .non .non H' R.kp (.old .non) h, fun fr d v H' k r h => hq fr d v H' k r h, fun o σ st H' R h => h.elim, fun o σ st H' R h => h.elim⟩ fun o σ st C fs d H' R xr h => ?_⟩
    exact hx C fs d H' R.kp (xr.mv ⟨fun a u n e => ⟨fun z => n (.inl (.inl z)), e⟩⟩) h
end
end DW
namespace DW
open PySem PySem.Spec PyProof.Rows L2
/-! ### try: one statement (or a choice of such), except C as n: a suite that returns -/
section
variable {g : Gd} {X : Cx} {W : WX} {e : Expr} {s : Stmt} {pos : Pos} {wx : WPX}
def WS1 (g : Gd) (X : Cx) (W : WX) (ss : List Stmt) (w : WPSX) : Prop := ∃ t, PSs X ss t ∧ ∀ Av B gh H0 o σ st H E De Xd, g.G H0 → FrOk g Av H0 → Rel g Av B gh H0 o σ st H → w De Xd st → EndsOk g Av B gh H0 E De →
  (∀ C fs d H', Kp g H H' → XR (Avo Av B o st) H' d fs → Xd C fs → W (.ref C) d σ H') → t E σ H
theorem ws1_set (i : Nat) (h : WEX g X W e wx) (hp : ∀ te, PE X e te → PS X s (tAsg te (gName i))) : WS1 g X W [s] (fun De Xd st => wx st (fun _ d => De.nx (st.set i (.val d))) Xd) := by
  obtain ⟨t, p, q⟩ := h
  refine ⟨_, pss_one (hp t p), fun Av B gh H0 o σ st H E De Xd hg F R hw K hx => ?_⟩
  exact q Av B gh H0 o σ st H _ _ Xd hg F R hw (fun fr d v H1 k1 r1 hd => K.nx _ _ _ H1 ((R.mono F k1).setVal i r1.dr) hd) fun C fs d H' k r h => hx C fs d H' k r h
theorem ws1_ret (h : WEX g X W e wx) : WS1 g X W [.Return (some e) pos] (fun De Xd st => wx st De.rt Xd) := by
  obtain ⟨t, p, q⟩ := h
  refine ⟨_, pss_one (ps_ret p), fun Av B gh H0 o σ st H E De Xd hg F R hw K hx => ?_⟩
  exact q Av B gh H0 o σ st H _ _ Xd hg F R hw (fun fr d v H1 k1 r1 hd => K.rt fr d v H1 (R.kp.trans k1) (r1.out hg R) hd) fun C fs d H' k r h => hx C fs d H' k r h
theorem ws1_if {c : Expr} {a b : List Stmt} {tc : WPT} {wa wb : WPSX} (hc : WT g X c tc) (ha : WS1 g X W a wa) (hb : WS1 g X W b wb) : WS1 g X W [.If c a b pos] (fun De Xd st => tc st fun k => if k = true then wa De Xd st else wb De Xd st) := by
  obtain ⟨t, p, q⟩ := hc
  obtain ⟨t1, p1, q1⟩ := ha
  obtain ⟨t2, p2, q2⟩ := hb
  refine ⟨_, pss_one (ps_if p p1 p2), fun Av B gh H0 o σ st H E De Xd hg F R hw K hx => ?_⟩
  refine q Av B gh H0 o σ st H _ _ hg F R hw fun c H1 k1 hd => ?_
  cases c with
  | true => exact q1 Av B gh H0 o σ st H1 E De Xd hg F (R.mono F k1) hd K fun C fs d H' k r h => hx C fs d H' (k1.trans k) r h
  | false => exact q2 Av B gh H0 o σ st H1 E De Xd hg F (R.mono F k1) hd K fun C fs d H' k r h => hx C fs d H' (k1.trans k) r h
end
/-- the error's own dict stands -/
def gE (g : Gd) (d : Option Addr) (fv : List (Str × V)) : Gd where
  W := g.W
  T := fun a => g.T a ∨ d = some a
  G := fun H => g.G H ∧ ∀ dd, d = some dd → H dd = some (.xd fv)
  wt := fun a h => .inl (g.wt a h)
  st := fun H H' e h => ⟨g.st H H' (fun a ha => e a (.inl ha)) h.1, fun dd hd => (e dd (.inr hd)).trans (h.2 dd hd)⟩
  tr := fun H h a ha => by
    rcases ha with ha | ha
    · exact g.tr H h.1 a ha
    · rw [h.2 a ha]; simp
def rawF (fs : List (Str × D)) : List (Str × V) := fs.map fun p => (p.1, p.2.fv)
theorem drf_raw {Av : Addr → Prop} {H : Hp} : ∀ {fv : List (Str × V)} {fs : List (Str × D)}, DRf Av H fv fs → (fs.all fun p => p.2.flat) = true → fv = rawF fs
  | _, _, .nil, _ => rfl
  | _, _, .cons h r, f => by
    simp only [List.all_cons, Bool.and_eq_true] at f
    rw [(h.flat f.1).1, drf_raw r f.2]; rfl
section
variable {g : Gd} {X : Cx} {x nm : Str} {c : Value} {i : Nat} {body suite : List Stmt} {b0 : Stmt} {np pos pos' : Pos} {Wout : WX} {wb : WPSX} {Pc : Addr → List (Str × D) → Prop} {ws : Addr → Addr → Option Addr → List (Str × D) → WPS}
theorem ws_tryAs (Kx : PySem.W.Frag) (hK : X.K = Kx) (hs : X.stack = X.env :: X.outer) (hf : X.env.frame = some X.env.locals) (hN : X.N.Nodup) (hi : X.N[i]? = some nm) (hln : X.env.kindOf nm = some .local) (hc : Names X x c) (tk : Takes X Wout)
    (hb : ∀ (W : WX) (pn : List (Addr × Obj)) (xe : Value → Shared → Prop), Takes (X.tr pn xe) W → PassesOwn (model X.prog X.w) X.A X.env xe → WS1 g (X.tr pn xe) W body wb)
    (hsu : ∀ (a : Addr) (oe : Obj) (C : Addr) (d : Option Addr) (fs : List (Str × D)) (pn : List (Addr × Obj)), Pc C fs → (fs = [] ∨ d ≠ none) → Zc (.ref C) d oe → (∃ vs, oe.data = .fields vs) → WSs (gE g d (rawF fs)) (X.suite a ((a, oe) :: pn)) (b0 :: suite) (ws a C d fs)) :
    WS g X (.Try body [.ExceptHandler (some (.Name x np)) (some nm) (b0 :: suite) pos'] [] [] pos) (fun De st => wb De (fun C fs => PySem.W.exmOne Kx (.ref C) c = some true ∧ (fs.all fun p => p.2.flat) = true ∧ Pc C fs ∧
      ∀ a d, (fs = [] ∨ d ≠ none) → ws a C d fs ⟨fun _ => False, De.rt, fun _ => False, fun _ => False⟩ ((List.replicate st.length .un).set i (.val (.rf a)))) st) := by
  subst hK
  let tb : WX → TS := fun W D σ H => ∀ pn xe (h1 : Takes (X.tr pn xe) W) (h2 : PassesOwn (model X.prog X.w) X.A X.env xe), (hb W pn xe h1 h2).choose D σ H
  let ts : Addr → Value → Option Addr → TS := fun a cls d D σ H => ∃ C fs, ∃ (hP : Pc C fs) (hd : fs = [] ∨ d ≠ none), cls = .ref C ∧ ∀ oe pn (hZ : Zc (.ref C) d oe) (hF : ∃ vs, oe.data = .fields vs), (hsu a oe C d fs pn hP hd hZ hF).choose D σ H
  refine ⟨_, ps_try_as (tb := tb) (ts := ts) hs hf hN hi hln hc tk (fun W pn xe h1 h2 => ⟨fun pins s σ H D I h => (hb W pn xe h1 h2).choose_spec.1.run pins s σ H D I (h pn xe h1 h2)⟩)
    (fun a oe cls d pn hZ hF => ⟨fun pins s σ H D I h => ?_⟩), fun Av B gh H0 o σ st H E De hg F R hw K => ?_⟩
  · obtain ⟨C, fs, hP, hd, rfl, h⟩ := h
    exact (hsu a oe C d fs pn hP hd hZ hF).choose_spec.1.run pins s σ H D I (h oe pn hZ hF)
  · intro pn xe h1 h2
    refine (hb _ pn xe h1 h2).choose_spec.2 Av B gh H0 o σ st H E De _ hg F R hw K fun C fs d H' k xr hX => ?_
    obtain ⟨hex, hfl, hP, hX⟩ := hX
    have R1 := R.mono F k
    refine ⟨true, hex, fun _ a ha => ?_, fun z => nomatch z⟩
    have key : ∀ fv : List (Str × V), fv = rawF fs → (fs = [] ∨ d ≠ none) → (∀ dd, d = some dd → ¬ Avo Av B o st dd ∧ H' dd = some (.xd fv)) → ts a (.ref C) d { nx := fun σ' H' => E.nx (σ'.set i none) H', rt := E.rt, bk := fun σ' H' => E.bk (σ'.set i none) H', ct := fun σ' H' => E.ct (σ'.set i none) H' } (σ.set i (some (.ref a))) H' := by
      intro fv hfv hne hd
      subst hfv
      refine ⟨C, fs, hP, hne, rfl, fun oe pn2 hZ hF => ?_⟩
      have gg : (gE g d (rawF fs)).G H' := ⟨R1.kp.2, fun dd e => (hd dd e).2⟩
      refine (hsu a oe C d fs pn2 hP hne hZ hF).choose_spec.2 (fun b => Avo Av B o st b ∨ d = some b) (fun _ => False) (fun _ _ => False) H' (fun _ => 0) _ ((List.replicate st.length .un).set i (.val (.rf a))) H' _ ⟨fun _ => False, De.rt, fun _ => False, fun _ => False⟩ gg
        ⟨fun b hb => hb.imp (fun z => Avo.ta F z) id, fun b hb => ?_⟩ ?_ (hX a d hne) ⟨fun _ _ _ _ _ z => z.elim, fun fr dd v H'' k2 r hrt => ?_, fun _ _ _ _ _ z => z.elim, fun _ _ _ _ _ z => z.elim⟩
      · rcases hb with z | z
        · exact R1.tracked F z
        · rw [(hd b z).2]; simp
      · have nun : ∀ (j : Nat) (s : Sl), ((List.replicate st.length Sl.un).set i (.val (.rf a)))[j]? = some s → (j = i ∧ s = .val (.rf a) ∧ i < st.length) ∨ s = .un := by
          intro j s h
          by_cases e : j = i
          · subst e
            by_cases hl : j < st.length
            · rw [List.getElem?_set_self (by simpa using hl)] at h
              exact .inl ⟨rfl, (Option.some.inj h).symm, hl⟩
            · rw [List.getElem?_eq_none (by simpa using hl)] at h; cases h
          · rw [List.getElem?_set_ne (Ne.symm e)] at h
            exact .inr (List.eq_of_mem_replicate (List.mem_of_getElem? h))
        refine ⟨by simp [R.len], Kp.refl gg, fun j dd h => ?_, fun j ds h => ?_, fun j k2 ds es h _ => ?_, fun b h => h.elim, fun v dd h => h.elim⟩
        · rcases nun j _ h with ⟨rfl, z, hl⟩ | z
          · cases z
            exact ⟨_, List.getElem?_set_self (by rw [R.len]; exact hl), .rf a⟩
          · cases z
        · rcases nun j _ h with ⟨_, z, _⟩ | z <;> cases z
        · rcases nun j _ h with ⟨_, z, _⟩ | z <;> cases z
      · have kg : Kp g H' H'' := ⟨k2.1, k2.2.1⟩
        refine K.rt fr dd v H'' (R1.kp.trans kg) ⟨r.dr.mv ⟨fun b u n e => ⟨fun z => n (.inl (.inl (.inl z))), e⟩⟩, fun efr => ?_⟩ hrt
        obtain ⟨p, vs, ds, e1, e2, e3, e4, e5⟩ := r.new efr
        exact ⟨p, vs, ds, e1, e2, R1.kp.free hg e3, e4, e5.mv ⟨fun b u n e => ⟨fun z => n (z.imp (fun z => .inl (.inl (.inl z))) id), e⟩⟩⟩
    rcases xr with ⟨rfl, rfl⟩ | ⟨dd, fv, rfl, n, e, r⟩
    · exact key [] rfl (.inl rfl) fun dd h => nomatch h
    · exact key fv (drf_raw r hfl) (.inr (by simp)) fun d2 h => by cases h; exact ⟨n, e⟩
end
end DW
/-! isinstance of a caught error that has a dict of its own -/
namespace DW
open PySem PySem.Spec PySem.Calls PyProof.Rows PySem.W
theorem find_data {K : Frag} {T : Addr} {y : Str} {u v : Value} {m : Option Obj} (q1 : (clsIn K T).isSome = true) (q2 : findIn K (.ref T) y = some (some u)) (q3 : specialIn K u "__get__" = some (some v)) (q4 : takesIn K u = some true) : findObj K T m y = some (.bind v u) := by
  obtain ⟨cc, qc⟩ := Option.isSome_iff_exists.mp q1
  simp [findObj, qc, q2, q3, q4]
section
variable {P : Program} {w : World} {A : Around} {Er : Value → Shared → Prop} {z : Shared} {K : Frag} {y T : Addr} {oy : Obj} {m : Option Obj}
theorem class_asked {Q : Option Value → Shared → Prop} (C : L2.ExcC K T) (X : K.In z.heap) (I : InstAt z.heap y oy T m) (q : Q (some (.ref T)) { z with toks := z.toks + 1 }) : wpAny (model P w) A (getAttr? (.ref y) "__class__") Q Er z := by
  have fnd : findObj K T m "__class__" = some (.bind (.builtin "getset_descriptor.__get__") (.builtin "object.__class__")) := find_data (by obtain ⟨cc, qc, _⟩ := any_some C.hd; rw [qc]; rfl) C.ha C.hn C.ht
  obtain ⟨hh, gg, dd, tt, oo⟩ := z
  have ty := I.type (M := model P w)
  have l1 := looks_findIn (M := model P w) X C.hg
  have l2 := looks_findIn (M := model P w) X C.hk
  have l3 := looks_find (M := model P w) X I fnd
  have isX : Looks (model P w) hh (isInstance (.ref y) (.type "BaseException")) true := ty.andThen (looks_subIn X C.hs)
  have n2 : (Value.builtin "BaseException.__getattribute__" == Value.builtin "object.__getattribute__") = false := by decide +kernel
  have n1 : (onTheHeap (Value.ref T) && Value.builtin "BaseException.__getattribute__" == Value.builtin "object.__getattribute__") = false := by
    rw [n2]; rfl
  have n0 : (false && onTheHeap (Value.builtin "BaseException.__getattribute__")) = false := rfl
  unfold getAttr? getAttrBy? getAttrBy
  refine wpAny_bind (wpAny_mkText (wpAny_bind (wpAny_attempt (wpAny_holding (wpAny_bind (ty.at (wpAny_bind (l1.at ?_))))))))
  show wpAny _ _ (if (onTheHeap (Value.ref T) && Value.builtin "BaseException.__getattribute__" == Value.builtin "object.__getattribute__") = true then _ else _) _ _ _
  rw [n1, if_neg Bool.false_ne_true]
  unfold getAttrByItsOwn hookBefore
  refine wpAny_bind ?_
  rw [if_pos (show onTheHeap (Value.ref T) = true from rfl)]
  refine l2.at (wpAny_bind (wpAny_attempt (wpAny_holding ?_)))
  unfold callGetattribute
  rw [n0, if_neg Bool.false_ne_true]
  unfold boundAndCalled
  rw [PySem.F.excAttr_ValueError.ga.bind (.ref y)]
  refine wpAny_bind (wpAny_pure ?_)
  show wpAny _ _ (call (.builtin "BaseException.__getattribute__") [.ref y, .str "__class__" tt]) _ _ _
  refine wpAny_call (codeAny_call_builtin PySem.F.excAttr_ValueError.ga.plain PySem.F.entry_bexc_ga ?_)
  refine @check_slot (model P w) _ _ ⟨hh, gg, dd, tt + 1, oo⟩ "BaseException.__getattribute__" "BaseException" "__getattribute__" (.ref y) [.str "__class__" tt] [] _ (by decide +kernel) (by decide +kernel) isX (PySem.F.args_bexc_ga (.ref y) (.str "__class__" tt)) ?_
  unfold Builtin.«object.__getattribute__»
  refine wpAny_bind (wpAny_of_eq (a := ((Value.ref y : Value), [Value.str "__class__" tt])) (by first | rfl | (simp only [slotArgs]; rfl)) ?_)
  refine wpAny_bind (wpAny_pure (wpAny_bind (ty.at (wpAny_bind (l3.at ?_)))))
  show wpAny _ _ (holding [Value.builtin "object.__class__"] (call (.builtin "getset_descriptor.__get__") [.builtin "object.__class__", .ref y, .ref T]) >>= ret) _ _ _
  refine wpAny_bind (wpAny_holding (wpAny_call (class_get (s := ⟨hh, gg, dd, tt + 1, oo⟩) (ox := oy) (od := m) X I C.hm ?_)))
  refine wpAny_pure ?_
  show wpAny _ _ (handedOut (.ref T)) _ _ _
  rw [handedOut_of (v := .ref T) rfl]
  first
    | exact wpAny_pure (wpAny_pure q)
    | exact wpAny_pure q
    | exact wpAny_pure (wpAny_bind (wpAny_pure (wpAny_pure q)))
theorem kit_err (C : L2.ExcC K T) : KitX K (.ref y) (.ref T) (fun h => InstAt h y oy T m) where
  ty := fun _ _ _ I => I.type
  it := fun _ _ X _ => by
    obtain ⟨cc, qc, _⟩ := any_some C.hd
    unfold clsIn at qc
    split at qc
    · rename_i k1 k2 k3 k4 there
      intro A1 Q1 E1 z1 kk q
      unfold isType loadHead
      exact wpAny_bind (wpAny_loadPart (kk _ _ (X _ _ there)) (wpAny_pure q))
    · cases qc
  ne := fun h tp dd its n sl X htp => by
    obtain ⟨cc, qc, _⟩ := any_some C.hd
    rw [Bool.eq_false_iff]
    intro q
    obtain rfl : T = tp := Value.ref.inj (beq_iff_eq.mp q)
    unfold clsIn at qc
    split at qc
    · rename_i k1 k2 k3 k4 there
      have two := (X _ _ there).symm.trans htp
      cases two
    · cases qc
  ca := fun X I q => class_asked C X I q
end
end DW
namespace DW
open PySem PySem.Spec PyProof.Rows L2
/-- isinstance(e, c), e the caught error at a, its dict at d -/
def rIsED (K : PySem.W.Frag) (T a : Addr) (d : Option Addr) : List V → Hp → VK → Prop := fun xs H Q => ∃ (c : V) (u : Value) (b : Bool), xs = [.ref a, c] ∧ ClsV c u ∧ PySem.W.kitOne K (.ref T) u = some b ∧ (∀ dd, d = some dd → ∃ fv, H dd = some (.xd fv)) ∧ Q (.bl b) H
theorem call_isED {X : Cx} {a T : Addr} {d : Option Addr} {oe : Obj} {pn : List (Addr × Obj)} (C : ExcC X.K T) (hz : Zc (.ref T) d oe) (hf : ∃ vs, oe.data = .fields vs) : CallR (X.suite a ((a, oe) :: pn)) (.builtin "isinstance") (rIsED X.K T a d) := by
  intro pins s σ H xs us Q I r h
  obtain ⟨c, u, b, rfl, hcv, e, hd, q⟩ := h
  obtain ⟨w1, w2, rfl, r1, r2⟩ := r.two
  cases r1
  obtain ⟨hget, _⟩ := I.pin (a, oe) (List.mem_append.mpr (.inl List.mem_cons_self))
  obtain ⟨vs, hv⟩ := hf
  obtain ⟨m, J⟩ : ∃ m, PySem.W.InstAt s.heap a oe T m := by
    cases d with
    | none =>
      refine ⟨none, hget, hz.1, by unfold PySem.W.notCls; rw [hv] <;> rfl, ?_⟩
      rw [hz.2]; trivial
    | some dd =>
      obtain ⟨fv, ho⟩ := hd dd rfl
      obtain ⟨mA, hns, hr⟩ := (I.hok dd _ ho : ObjOk X.prog X.w H s.heap dd (.xd fv))
      obtain ⟨od, ho2, _⟩ := lookIn_ns hns
      exact ⟨some od, hget, hz.1, by unfold PySem.W.notCls; rw [hv] <;> rfl, by rw [hz.2]; exact ho2⟩
  have eu : w2 = u := by
    cases hcv <;> cases r2 <;> rfl
  subst eu
  exact PySem.W.kia_one (kit_err C) I.kIn J e (fun z => nomatch z) fun tk => ⟨.bl b, H, I.kept (t' := tk) fun _ _ z => z, rfl, q⟩
def mIsED (K : PySem.W.Frag) (T a : Addr) : SemC := fun ds Q => ∃ c u b, ds = [.rf a, c] ∧ c.clv = some u ∧ PySem.W.kitOne K (.ref T) u = some b ∧ Q false (.bl b)
theorem sc_isED {g : Gd} {K : PySem.W.Frag} {T a : Addr} {d : Option Addr} {fv : List (Str × V)} : SC (gE g d fv) (rIsED K T a d) (mIsED K T a) := by
  intro Avs Av H ds vs Q Qd F r hm hk
  obtain ⟨c, u, b, rfl, hc, hk1, hq⟩ := hm
  obtain ⟨v1, v2, rfl, y1, y2⟩ := r.two
  have z1 := y1.dr (by simp)
  cases z1
  have z2 := y2.dr (by cases c <;> first | rfl | exact nomatch hc)
  exact ⟨v2, u, b, rfl, z2.cls hc, hk1, fun dd e => ⟨fv, F.gg.2 dd e⟩, hk _ _ _ H (Kp.refl F.gg) (.old (.bl b)) hq⟩
end DW
namespace DW
open PySem PySem.Spec PyProof.Rows L2
/-! ### the field of a caught error; a method, an operator, a class that may raise -/
def tBy1 (C : Addr) (a : Addr) (cls : Value) (d : Option Addr) (fl : Str) (te : TE) : TE := fun σ H Q => te σ H fun x H1 => x = .ref a ∧ cls = .ref C ∧ ∃ (dd : Addr) (v : V), d = some dd ∧ H1 dd = some (.xd [(fl, v)]) ∧ Q v H1
theorem DR.flat_of {Av : Addr → Prop} {H : Hp} {d : D} (f : d.flat = true) : DR Av H d.fv d := by
  cases d <;> simp only [D.flat, Bool.false_eq_true] at f
  · exact .non
  · exact .bl _
  · exact .int _
  · exact .str _
section
variable {g : Gd} {X : Cx} {W : WX} {e e1 : Expr} {es : List Expr} {w : WP} {wa : WPA} {n : Nat} {SP : List D → RQ → XQ → Prop} {pos : Pos}
theorem we_eFld {C a : Addr} {dd : Option Addr} {fl : Str} {x : D} (h : WE (gE g dd [(fl, x.fv)]) X e w) (hd : dd ≠ none) (hx : x.flat = true) (hc : ∀ te, PE X e te → PE X e1 (tBy1 C a (.ref C) dd fl te)) :
    WE (gE g dd [(fl, x.fv)]) X e1 (fun st Q => w st fun _ y => y = .rf a ∧ Q false x) := by
  obtain ⟨t, p, q⟩ := h
  refine ⟨_, hc t p, fun Av B gh H0 o σ st H Q Qd hg F R hw hk => ?_⟩
  refine q Av B gh H0 o σ st H _ _ hg F R hw fun fr d v H1 k1 r1 hq => ?_
  obtain ⟨rfl, hq⟩ := hq
  have z := r1.dr
  cases z
  cases dd with
  | none => exact absurd rfl hd
  | some dd => exact ⟨rfl, rfl, dd, x.fv, rfl, k1.2.2 dd rfl, hk false x _ H1 k1 (.old (DR.flat_of hx)) hq⟩
/-! ### o.m(..), m may raise -/
def tMethS (C : Addr) (m : Str) (sp : Sp) (E : L2.St → XK) (ta : TE) (t : TA) : TE := fun σ H Q => ta σ H fun x H1 => ∃ a dx fs, x = .ref a ∧ H1 a = some (.ins C dx fs) ∧ fs.lookup m = none ∧ t σ H1 fun vs H2 => sp (.ref a :: vs) H2 Q (E σ)
theorem pe_methX {CX : CXT} {k : Nat} {C f : Addr} {fd : FuncData} {ps : List Str} {sp : Sp} {E : L2.St → XK} {m : Str} {o e : Expr} {es : List Expr} {ta : TE} {t : TA} {apos : Pos} {pl : Sem Bool} (he : PE X o ta) (c : Cls X.K C) (hm : Meth X.K C m f) (F : FnOk X.prog X.w X.K X.mg X.base CX k f fd ps sp)
    (hr : Room k X.A) (hb : Binds X.K fd ps []) (hx : ∀ σ, PassesAt CX X σ (E σ)) (ha : PA X (e :: es) t)
    (hst : starEach (e :: es) X.env = (false, eval e X.env) :: starEach es X.env := by rfl)
    (hpl : (backTo pos (starEach es X.env)).any (·.1) = false := by rfl)
    (ht : eval (.Call (.Attribute o m apos) (e :: es) [] pos) X.env = ((eval o X.env) >>= fun ov => (standAt apos.atName) >>= fun _ =>
      (holding [ov] (getMethod ov m pl)) >>= fun p => callWith pos p.1 p.2 (backTo pos (starEach (e :: es) X.env)) (backToKw pos (keywordEach [] X.env))) := by rfl) :
    PE X (.Call (.Attribute o m apos) (e :: es) [] pos) (tMethS C m sp E ta t) := by
  constructor
  intro pins s σ H Q I h
  apply PySem.W.methodCall_KW (pl := pl) _ ht
  refine thn (he.run pins s σ H _ I h) ?_
  rintro u s1 ⟨x, H1, I1, rx, a, dx, fs, rfl, ea, l, q⟩
  cases rx
  apply getmeth_ok I1 ea c hm l
  apply PySem.W.callWith_K (first := [.ref a]) (h₀ := X.base) I1.ok.mod.kin hm.kp _ hst hpl
  refine thn (ha.run pos pins s1 σ H1 _ I1 q) ?_
  rintro us s2 ⟨vs, H2, I2, r, q2⟩
  exact ⟨I2.kIn, run_fnS (us := .ref a :: us) (vs := .ref a :: vs) F hr hb (hx σ) I2 (.cons rfl r) q2⟩
theorem we_methX {C : Addr} {m : Str} {o' : Expr} (ho : WE g X o' w) (ha : WA g X es wa) (hc : ∀ ta t, PE X o' ta → PA X es t → PE X e (tMethS C m (spX g n SP) (fun σ cls d H => W cls d σ H) ta t)) :
    WEX g X W e (fun st Q Xd => w st fun _ s => ∃ fs, s = .obj C fs ∧ fs.lookup m = none ∧ wa st fun ds => ds.length + 1 = n ∧ SP (s :: ds) Q Xd) := by
  obtain ⟨ta, pa, qa⟩ := ho
  obtain ⟨t, p, q⟩ := ha
  refine ⟨_, hc ta t pa p, fun Av B gh H0 o σ st H Q Qd Xd hg F R hw hk hx => ?_⟩
  refine qa Av B gh H0 o σ st H _ _ hg F R hw fun fr s v H1 k1 r1 hd => ?_
  obtain ⟨fs, rfl, l, hd⟩ := hd
  have z := r1.dr
  cases z with
  | obj na ea rf =>
    refine ⟨_, _, _, rfl, ea, (rf.look (f := m)).2 l, ?_⟩
    refine q Av B gh H0 o σ st H1 _ _ hg F (R.mono F k1) hd fun ds vs H2 k2 r2 hd2 => ?_
    have R2 := (R.mono F k1).mono F k2
    refine ⟨by simpa [r2.length] using hd2.1, Avo Av B o st, _ :: ds, Qd, Xd, k2.2, R2.frok F, .cons (r1.dr.mv (Mv.avo F k2)) (by simpa using r2), hd2.2, fun fr d v H' k r hq => ?_, fun C fs d H' k r h => hx C fs d H' ((k1.trans k2).trans k) r h⟩
    exact hk fr d v H' ((k1.trans k2).trans k) (r.back R.kp.2 (k1.trans k2)) hq
end
end DW
namespace L2
open PySem PySem.Spec PyProof.Rows
/-- X() of an error of one's own without a word -/
theorem pmk_own0 {X : Cx} {C : Addr} {bmB : List Value} {B newId initId : String} {x : Str} {p pos : Pos} (F : ExcBaseFacts B newId initId bmB) (q : PySem.W.excIn X.K C bmB newId = true) (gC : X.mg x = some (.ref C)) (kC : PySem.W.keepIn X.K (.ref C) = true) (r : Raises X (.ref C)) (hg : Gl X x)
    (hdb : (x == ("__debug__" : Str)) = false := by decide) : PMk X (.Call (.Name x p) [] [] pos) (fun _ H Q => Q (.ref C) none H) := by
  intro pins s σ H Q I h
  refine wpAny_Call_Name_kw (ld_glob I hg gC ?_ hdb)
  refine PySem.W.callWith_K0 I.kIn kC ?_
  rw [List.append_nil]
  obtain ⟨bm, N, nm, qn, bs, hdct, sn, sub, ab, col, dd, k0, k1, k2, k3, k5, mN, hC, hN, hni, T⟩ := exc_obj I.kIn q
  exact wpAny_call_exc_subT F T hC hN hni (fun h' e hm => mk_of I hm r h (I.hok.gone hm.new)) (Nat.zero_le _)
end L2
namespace DW
open PySem PySem.Spec PyProof.Rows L2 PySem.W
theorem int_fill_mul : fillsNumberSlot (.type "int") "mul" = pure true := by
  show (do let f ← typeLookup (.type "int") (PySem.dunder "mul"); let r ← typeLookup (.type "int") (PySem.dunderR "mul"); pure ((f.isSome && !isSeqSlot f) || (r.isSome && !isSeqSlot r))) = pure true
  rw [typeLookup_type, typeLookup_type, builtinLookup_eq_fast]; kernel_rfl
theorem int_rmul : typeLookup (.type "int") (PySem.dunderR "mul") = pure (some (.builtin "int.__rmul__")) := by rw [typeLookup_type, builtinLookup_eq_fast]; kernel_rfl
theorem int_mul_ref (a : Int) (t : Tok) (l C dx : Addr) : Meets (Builtin.«int.__mul__» ⟨[.int a t, .ref l], []⟩) (fun _ R s => s.heap.get? l = some (instObj C dx) ∧ R (.ok (.ret Value.notImplemented)) s) :=
  .of_wp fun prog w A R s h => by
    obtain ⟨hp, g, d, tk, os⟩ := s
    obtain ⟨hl, h⟩ := h
    wp_walk using wpAny_loadPart' hl
    exact ⟨_, rfl, h⟩
section
variable {prog : Program} {w : World} {A : Around} {E : Value → Shared → Prop} {s : Shared} {K : Frag} {x C L f : Addr} {h₀ : Heap} {m : Str → Option Value} {ox : Obj} {od : Option Obj}
/-- one's own *, an int on the right -/
theorem binop_KI {i : Int} {t : Tok} {Q : Value → Shared → Prop} (F : Fr h₀ L s.heap m) (X₀ : K.In h₀) (I : InstAt s.heap x ox C od) (hc : selfFirst K C = true)
    (hs : findIn K (.ref C) (PySem.dunder "mul") = some (some (.ref f))) (hf : isFn K (.ref f) = true) {g : Addr} (hr : findIn K (.ref C) (PySem.dunderR "mul") = some (some (.ref g))) (hk : subIn K (.type "int") (.ref C) = some false)
    (h : wpAny (model prog w) A (call (.ref f) [.ref x, .int i t]) (PySem.W.CmpBack Q) E s) : wpAny (model prog w) A (binaryOp .Mult (.ref x) (.int i t)) Q E s := by
  have X := X₀.keeps F.keep
  obtain ⟨cd, hcd, hm⟩ := any_some hc
  obtain ⟨rest, hm⟩ : ∃ rest, cd.mro = .ref C :: rest := by
    cases q : cd.mro with
    | nil => rw [q] at hm; cases hm
    | cons a r => rw [q] at hm; exact ⟨r, by rw [List.head?_cons] at hm; cases (beq_iff_eq.mp hm); rfl⟩
  unfold binaryOp
  refine wpAny_holding (wpAny_bind ?_)
  unfold binaryOp1
  refine wpAny_bind (I.type.here (wpAny_bind ?_))
  refine wpAny_pure ?_
  refine wpAny_bind ((fills_K X hcd hm hs).here ?_)
  rw [int_fill_mul]
  have hne : ((Value.ref C) == Value.type "int") = false := rfl
  simp only [hne, if_false, Bool.false_eq_true]
  refine wpAny_bind (wpAny_pure ?_)
  simp only [Bool.and_self, if_true]
  refine wpAny_bind ((looks_subIn X hk).here ?_)
  simp only [Bool.false_eq_true, if_false, Bool.not_false, Bool.and_self, if_true]
  unfold numberSlotInPython
  simp only []
  refine wpAny_bind ?_
  refine wpAny_bind ((looks_findIn X hs).here ?_)
  refine wpAny_bind (wpAny_pure ?_)
  refine wpAny_bind ((looks_findIn X hr).here ?_)
  refine wpAny_bind (wpAny_pure ?_)
  simp only [Bool.or_self, if_true]
  refine wpAny_pure ?_
  refine wpAny_bind (wpAny_pure ?_)
  simp only [Bool.not_false, if_true]
  refine wpAny_bind ?_
  rw [int_rmul]
  refine wpAny_pure ?_
  refine wpAny_bind (m := tryMethod (.ref x) _ (.int i t)) ?_
  unfold tryMethod
  refine wpAny_bind (special_fn X I hs (beq_iff_eq.mp hf) (wpAny_mono h (fun v s' hv => ?_) fun _ _ e => e))
  cases v <;> first | exact hv.elim | exact wpAny_pure (wpAny_pure (wpAny_pure hv))
/-- an int times one's own: by the reflected method -/
theorem binop_IK {i : Int} {t : Tok} {dx : Addr} {Q : Value → Shared → Prop} (F : Fr h₀ L s.heap m) (X₀ : K.In h₀) (I : InstAt s.heap x (instObj C dx) C od) (hc : selfFirst K C = true)
    (hs : findIn K (.ref C) (PySem.dunderR "mul") = some (some (.ref f))) (hf : isFn K (.ref f) = true) {g : Addr} (hm0 : findIn K (.ref C) (PySem.dunder "mul") = some (some (.ref g))) (hk : subIn K (.ref C) (.type "int") = some false)
    (h : wpAny (model prog w) A (call (.ref f) [.ref x, .int i t]) (PySem.W.CmpBack Q) E s) : wpAny (model prog w) A (binaryOp .Mult (.int i t) (.ref x)) Q E s := by
  have X := X₀.keeps F.keep
  obtain ⟨cd, hcd, hm⟩ := any_some hc
  obtain ⟨rest, hm⟩ : ∃ rest, cd.mro = .ref C :: rest := by
    cases q : cd.mro with
    | nil => rw [q] at hm; cases hm
    | cons a r => rw [q] at hm; exact ⟨r, by rw [List.head?_cons] at hm; cases (beq_iff_eq.mp hm); rfl⟩
  unfold binaryOp
  refine wpAny_holding (wpAny_bind ?_)
  unfold binaryOp1
  refine wpAny_bind (wpAny_pure (wpAny_bind (I.type.here ?_)))
  rw [int_fill_mul]
  refine wpAny_bind (wpAny_pure ?_)
  have hne : (Value.type "int" == (Value.ref C)) = false := rfl
  simp only [hne, if_false, Bool.false_eq_true]
  refine wpAny_bind ((fills_K X hcd hm hm0).here ?_)
  simp only [Bool.and_self, if_true]
  refine wpAny_bind ((looks_subIn X hk).here ?_)
  simp only [Bool.false_eq_true, if_false, Bool.not_false, Bool.and_self, if_true]
  unfold numberSlotInPython
  simp only []
  refine wpAny_bind (wpAny_pure ?_)
  simp only [Bool.false_eq_true, if_false]
  refine wpAny_bind (m := tryMethod (.int i t) _ (.ref x)) ?_
  refine wpAny_tryMethod_declines (T := "int") rfl PySem.F.slot_int_mul (call_meets PySem.F.slot_int_mul rfl PySem.F.entry_int_mul (PySem.F.args_int_mul_2 _ _) (int_mul_ref i t x C dx) ⟨I.at_, ⟨rfl, ?_⟩⟩)
  simp only []
  refine wpAny_bind (m := tryMethod (.ref x) _ (.int i t)) ?_
  unfold tryMethod
  refine wpAny_bind (special_fn X I hs (beq_iff_eq.mp hf) (wpAny_mono h (fun v s' hv => ?_) fun _ _ e => e))
  cases v <;> first | exact hv.elim | exact wpAny_pure (wpAny_bind (wpAny_rule (wpAny_pure (wpAny_pure hv))))
end
end DW
namespace L2
open PySem PySem.Spec PyProof.Rows
theorem tuple_mul_same (l : Addr) (items : Array Value) (n : Nat) (dd : Option Addr) (sl : Array (Option Value)) (x : Int) (u : Tok) (c0 : (decide (x < -(2 ^ 63)) || decide (x ≥ 2 ^ 63)) = false) (c1 : (items.isEmpty || x == 1) = true) :
    Meets (Builtin.«tuple.__mul__» ⟨[.ref l, .int x u], []⟩) (fun _ R s => s.heap.get? l = some { cls := .type "tuple", dict := dd, data := .seq items n, slots := sl } ∧ R (.ok (.ret (Value.ref l))) s) :=
  .of_wp fun prog w A R s h => by
    obtain ⟨hp, g, d, tk, os⟩ := s
    obtain ⟨hl, h⟩ := h
    have f1 := AutoSeq1.idx_int
    wp_walk using wpAny_loadPart' hl
    repeat (first
      | (refine wpAny_ite_false (decide_eq_false (by rw [c0]; exact Bool.false_ne_true)) ?_; wp_walk using wpAny_loadPart' hl)
      | (refine wpAny_ite_true (decide_eq_true (by rw [c1])) ?_; wp_walk using wpAny_loadPart' hl))
    exact ⟨_, rfl, h⟩
theorem tuple_mul_zero (l : Addr) (items : Array Value) (n : Nat) (dd : Option Addr) (sl : Array (Option Value)) (u : Tok) (c1 : items.isEmpty = false) :
    Meets (Builtin.«tuple.__mul__» ⟨[.ref l, .int 0 u], []⟩) (fun _ R s => s.heap.get? l = some { cls := .type "tuple", dict := dd, data := .seq items n, slots := sl } ∧
      R (.ok (.ret (Value.ref s.heap.objs.size))) { s with heap := s.heap.push { cls := Value.type "tuple", data := Data.seq #[] }, toks := s.toks }) :=
  .of_wp fun prog w A R s h => by
    obtain ⟨hp, g, d, tk, os⟩ := s
    obtain ⟨hl, h⟩ := h
    have f1 := AutoSeq1.idx_int
    wp_walk using wpAny_loadPart' hl
    repeat (first
      | (refine wpAny_ite_false (decide_eq_false (by rw [c1]; decide)) ?_; wp_walk using wpAny_loadPart' hl)
      | (refine wpAny_ite_false (decide_eq_false (by decide)) ?_; wp_walk using wpAny_loadPart' hl)
      | (refine wpAny_ite_true (decide_eq_true (by decide)) ?_; wp_walk using wpAny_loadPart' hl))
    exact ⟨_, rfl, h⟩
end L2
namespace L2
open PySem PySem.Spec PyProof.Rows
/-- tuple * int, for every count from 0 on -/
def rRepA (K : PySem.W.Frag) : R2 := fun x y H Q => ∃ l k xs, x = .ref l ∧ y = .int k ∧ SqT K H l xs ∧ 0 ≤ k ∧ k ≤ 1000 ∧ xs.length ≤ 1000 ∧ ((xs = [] ∨ k = 1) → Q (.ref l) H) ∧ (¬ (xs = [] ∨ k = 1) → ∀ p, H p = none → Q (.ref p) (upd H p (.tup (List.replicate k.toNat xs).flatten)))
section
variable {X : Cx}
theorem op_repA : OpR X (binaryOp .Mult) (rRepA X.K) := by
  intro pins s σ H x y v u Q I rx ry h
  obtain ⟨l, k, xs, rfl, rfl, hT, h1, h2, hz, qs, qn⟩ := h
  by_cases c : xs = [] ∨ k = 1
  · cases rx
    obtain ⟨t, rfl⟩ := ry
    obtain ⟨its, r, ⟨⟨cls, dd, data, sl⟩, ho, hc, n, hd⟩, hs⟩ := I.tuple hT
    simp only at hc hd
    subst hc hd
    have hle : its.length = xs.length := r.length.symm
    have c0 : (decide (k < -(2 ^ 63)) || decide (k ≥ 2 ^ 63)) = false := by
      rw [decide_eq_false (by omega), decide_eq_false (by omega)] <;> rfl
    have c1 : (its.toArray.isEmpty || k == 1) = true := by
      rcases c with c | c
      · rw [c] at hle
        rw [List.eq_nil_of_length_eq_zero hle]; rfl
      · rw [c]; simp
    refine wpAny_binaryOp_repeat_ref (T := "tuple") (U := "int") (by decide) ⟨_, ho, rfl⟩ (fun s' => typeIs_int s' k t) noFill_tuple_mul F.fills_int_mul F.slot_int_rmul repeat_tuple F.slot_int_index.lookup
      (call_meets F.slot_int_rmul (typeIs_int s k t) F.entry_int_rmul (F.args_int_rmul_2 _ _) (int_rmul_tuple k t l its.toArray n dd sl)
        ⟨ho, rfl, ⟨_, ho, rfl⟩, call_meets F.slot_tuple_mul ⟨_, ho, rfl⟩ F.entry_tuple_mul (F.args_tuple_mul_2 _ _) (tuple_mul_same l its.toArray n dd sl k t c0 c1) ⟨ho, ?_⟩⟩)
    exact ⟨.ref l, H, I, rfl, qs c⟩
  · have hne : xs ≠ [] := fun e => c (.inl e)
    by_cases k0 : k = 0
    · subst k0
      cases rx
      obtain ⟨t, rfl⟩ := ry
      obtain ⟨its, r, ⟨⟨cls, dd, data, sl⟩, ho, hc, n, hd⟩, hs⟩ := I.tuple hT
      simp only at hc hd
      subst hc hd
      have c1 : its.toArray.isEmpty = false := by
        cases its with
        | nil => exact absurd (List.eq_nil_of_length_eq_zero r.length) hne
        | cons a b => rfl
      refine wpAny_binaryOp_repeat_ref (T := "tuple") (U := "int") (by decide) ⟨_, ho, rfl⟩ (fun s' => typeIs_int s' 0 t) noFill_tuple_mul F.fills_int_mul F.slot_int_rmul repeat_tuple F.slot_int_index.lookup
        (call_meets F.slot_int_rmul (typeIs_int s 0 t) F.entry_int_rmul (F.args_int_rmul_2 _ _) (int_rmul_tuple 0 t l its.toArray n dd sl)
          ⟨ho, rfl, ⟨_, ho, rfl⟩, call_meets F.slot_tuple_mul ⟨_, ho, rfl⟩ F.entry_tuple_mul (F.args_tuple_mul_2 _ _) (tuple_mul_zero l its.toArray n dd sl t c1) ⟨ho, ?_⟩⟩)
      refine ⟨.ref s.heap.objs.size, _, I.laid (t' := s.toks) (o := .tup []) (fun b ob q => Heap.get?_push_of_some _ q) (Nat.le_refl _) ⟨Nat.zero_le _, _, .nil, IsTup.new _ _⟩, rfl, qn c _ (I.hok.fresh (Nat.le_refl _))⟩
    · exact op_repT pins s σ H _ _ v u Q I rx ry ⟨l, k, xs, rfl, rfl, hT, hne, by have : k ≠ 1 := fun e => c (.inr e); omega, h2, hz, qn c⟩
end
end L2
namespace DW
open PySem PySem.Spec PyProof.Rows L2
section
variable {g : Gd} {X : Cx}
/-- * of ints, of a list and an int, of a tuple and an int -/
def mMulB : Sem2
  | .int i, .int j, Q => CMul i j ∧ Q false (.int (i * j))
  | .lst a, .int k, Q => -(2 ^ 63) ≤ k ∧ k < 2 ^ 63 ∧ a.length * k.toNat ≤ sizeLine ∧ Q true (.lst (List.replicate k.toNat a).flatten)
  | .tup a, .int k, Q => 0 ≤ k ∧ k ≤ 1000 ∧ a.length ≤ 1000 ∧ Q false (.tup (List.replicate k.toNat a).flatten)
  | _, _, _ => False
def rMulB (K : PySem.W.Frag) : R2 := fun x y H Q => rMulA x y H Q ∨ rRepA K x y H Q
theorem op_mulB : OpR X (binaryOp .Mult) (rMulB X.K) := op_mulA.or op_repA
theorem s2_mulB : S2 g (rMulB X.K) mMulB := by
  intro Avs Av H x y vx vy Q Qd F rx ry hm hk
  cases x <;> cases y <;> simp only [mMulB] at hm
  case int.int i j => exact .inl (s2_mul Avs Av H _ _ vx vy Q Qd F rx ry hm hk)
  case lst.int a k => exact .inl (s2_mul Avs Av H _ _ vx vy Q Qd F rx ry hm hk)
  case tup.int a k =>
    obtain ⟨p, vs, rfl, e1, r1, rp⟩ := rx.tup
    cases ry.int
    have hl := r1.length
    have rr := r1.rep k.toNat
    refine .inr ⟨p, k, vs, rfl, rfl, .inl (.inl e1), hm.1, hm.2.1, by rw [hl]; exact hm.2.2.1, fun c => ?_, fun c u hu => ?_⟩
    · have e : (List.replicate k.toNat a).flatten = a := by
        rcases c with c | c
        · rw [c] at hl
          rw [List.eq_nil_of_length_eq_zero hl.symm]; simp
        · rw [c]; simp
      have q := hm.2.2.2
      rw [e] at q
      exact hk false _ _ H (Kp.refl F.gg) (.old rp) q
    · obtain ⟨kp, r⟩ := F.tup rr hu
      exact hk false _ _ _ kp r hm.2.2.2
end
end DW
namespace DW
open PySem PySem.Spec PyProof.Rows L2
/-! ### +, |, * of one's own, that may raise -/
section
variable {X : Cx} {CX : CXT} {n : Nat} {C f : Addr} {fd : FuncData} {ps : List Str} {sp : Sp} {E : L2.St → XK} {a b : Expr} {ta tb : TE} {pos : Pos}
theorem ends_S {pins : List (Addr × Obj)} {σ : L2.St} {H : Hp} {s : Shared} {Q : VK} {us : List Value} {vs : List V} (F : FnOk X.prog X.w X.K X.mg X.base CX n f fd ps sp) (hr : Room n X.A) (hb : Binds X.K fd ps []) (hx : PassesAt CX X σ (E σ))
    (I : Inv X pins σ H s) (r : Vals vs us) (h : sp vs H Q (E σ)) : wpAny (model X.prog X.w) X.A (call (.ref f) us) (PySem.W.CmpBack (EP X pins σ Q)) X.xe s := by
  refine wpAny_mono (run_fnS F hr hb hx I r h) (fun v s' z => ?_) fun _ _ e => e
  obtain ⟨z0, H', I', rz, q⟩ := id z
  exact back_rel rz z
def tBinS (C : Addr) (sp : Sp) (E : L2.St → XK) (ta tb : TE) : TE := fun σ H Q => ta σ H fun x H1 => tb σ H1 fun y H2 => ∃ a b dx dy fs gs, x = .ref a ∧ y = .ref b ∧ H2 a = some (.ins C dx fs) ∧ H2 b = some (.ins C dy gs) ∧ sp [x, y] H2 Q (E σ)
theorem pe_binS {op : Operator} (F : FnOk X.prog X.w X.K X.mg X.base CX n f fd ps sp) (hs : PySem.W.findIn X.K (.ref C) (PySem.dunder op.info.2) = some (some (.ref f))) (hf : PySem.W.isFn X.K (.ref f) = true) (hb : Binds X.K fd ps []) (hc : PySem.W.selfFirst X.K C = true)
    (hx : ∀ σ, PassesAt CX X σ (E σ)) (hr : Room n X.A) (ha : PE X a ta) (hb' : PE X b tb) : PE X (.BinOp a op b pos) (tBinS C sp E ta tb) := by
  refine ⟨fun pins s σ H Q I h => ?_⟩
  refine wpAny_BinOp (binT ha hb' I h fun v u s2 x y H2 I2 rx ry q => ?_)
  obtain ⟨p, q', dx, dy, fs, gs, rfl, rfl, e1, e2, hsp⟩ := q
  cases rx
  cases ry
  obtain ⟨mA, J, _⟩ := ins_get I2.hok e1
  obtain ⟨mB, J', _⟩ := ins_get I2.hok e2
  obtain ⟨od, J, _⟩ := J.look
  obtain ⟨od', J', _⟩ := J'.look
  obtain ⟨m, hF⟩ := I2.fr
  exact PySem.W.binop_K hF I2.ok.mod.kin J J'.type hc hs hf (ends_S (us := [.ref p, .ref q']) (vs := [.ref p, .ref q']) F hr hb (hx σ) I2 (.cons rfl (.cons rfl .nil)) hsp)
def tBinI (C : Addr) (sp : Sp) (E : L2.St → XK) (ta tb : TE) : TE := fun σ H Q => ta σ H fun x H1 => tb σ H1 fun y H2 => ∃ a dx fs i, x = .ref a ∧ y = .int i ∧ H2 a = some (.ins C dx fs) ∧ sp [x, y] H2 Q (E σ)
theorem pe_binI {gR : Addr} (F : FnOk X.prog X.w X.K X.mg X.base CX n f fd ps sp) (hs : PySem.W.findIn X.K (.ref C) (PySem.dunder "mul") = some (some (.ref f))) (hf : PySem.W.isFn X.K (.ref f) = true) (hb : Binds X.K fd ps []) (hc : PySem.W.selfFirst X.K C = true)
    (hR : PySem.W.findIn X.K (.ref C) (PySem.dunderR "mul") = some (some (.ref gR))) (hk : PySem.W.subIn X.K (.type "int") (.ref C) = some false)
    (hx : ∀ σ, PassesAt CX X σ (E σ)) (hr : Room n X.A) (ha : PE X a ta) (hb' : PE X b tb) : PE X (.BinOp a .Mult b pos) (tBinI C sp E ta tb) := by
  refine ⟨fun pins s σ H Q I h => ?_⟩
  refine wpAny_BinOp (binT ha hb' I h fun v u s2 x y H2 I2 rx ry q => ?_)
  obtain ⟨p, dx, fs, i, rfl, rfl, e1, hsp⟩ := q
  cases rx
  obtain ⟨t, rfl⟩ := ry
  obtain ⟨mA, J, _⟩ := ins_get I2.hok e1
  obtain ⟨od, J, _⟩ := J.look
  obtain ⟨m, hF⟩ := I2.fr
  exact binop_KI hF I2.ok.mod.kin J hc hs hf hR hk (ends_S (us := [.ref p, .int i t]) (vs := [.ref p, .int i]) F hr hb (hx σ) I2 (.cons rfl (.cons ⟨t, rfl⟩ .nil)) hsp)
def tBinR (C : Addr) (sp : Sp) (E : L2.St → XK) (ta tb : TE) : TE := fun σ H Q => ta σ H fun x H1 => tb σ H1 fun y H2 => ∃ a dx fs i, y = .ref a ∧ x = .int i ∧ H2 a = some (.ins C dx fs) ∧ sp [y, x] H2 Q (E σ)
theorem pe_binR {gM : Addr} (F : FnOk X.prog X.w X.K X.mg X.base CX n f fd ps sp) (hs : PySem.W.findIn X.K (.ref C) (PySem.dunderR "mul") = some (some (.ref f))) (hf : PySem.W.isFn X.K (.ref f) = true) (hb : Binds X.K fd ps []) (hc : PySem.W.selfFirst X.K C = true)
    (hM : PySem.W.findIn X.K (.ref C) (PySem.dunder "mul") = some (some (.ref gM))) (hk : PySem.W.subIn X.K (.ref C) (.type "int") = some false)
    (hx : ∀ σ, PassesAt CX X σ (E σ)) (hr : Room n X.A) (ha : PE X a ta) (hb' : PE X b tb) : PE X (.BinOp a .Mult b pos) (tBinR C sp E ta tb) := by
  refine ⟨fun pins s σ H Q I h => ?_⟩
  refine wpAny_BinOp (binT ha hb' I h fun v u s2 x y H2 I2 rx ry q => ?_)
  obtain ⟨p, dx, fs, i, rfl, rfl, e1, hsp⟩ := q
  cases ry
  obtain ⟨t, rfl⟩ := rx
  obtain ⟨mA, J, _⟩ := ins_get I2.hok e1
  obtain ⟨od, J, _⟩ := J.look
  obtain ⟨m, hF⟩ := I2.fr
  exact binop_IK hF I2.ok.mod.kin J hc hs hf hM hk (ends_S (us := [.ref p, .int i t]) (vs := [.ref p, .int i]) F hr hb (hx σ) I2 (.cons rfl (.cons ⟨t, rfl⟩ .nil)) hsp)
end
section
variable {g : Gd} {X : Cx} {W : WX} {e a b : Expr} {wa wb : WP} {SP : List D → RQ → XQ → Prop} {C : Addr}
theorem we_binS (ha : WE g X a wa) (hb : WE g X b wb) (hc : ∀ ta tb, PE X a ta → PE X b tb → PE X e (tBinS C (spX g 2 SP) (fun σ cls d H => W cls d σ H) ta tb)) :
    WEX g X W e (fun st Q Xd => wa st fun _ x => wb st fun _ y => ∃ fs gs, x = .obj C fs ∧ y = .obj C gs ∧ SP [x, y] Q Xd) := by
  obtain ⟨t, p, q⟩ := ha
  obtain ⟨t2, p2, q2⟩ := hb
  refine ⟨_, hc t t2 p p2, fun Av B gh H0 o σ st H Q Qd Xd hg F R hw hk hx => ?_⟩
  refine q Av B gh H0 o σ st H _ _ hg F R hw fun fr d v H1 k1 r1 hw1 => ?_
  refine q2 Av B gh H0 o σ st H1 _ _ hg F (R.mono F k1) hw1 fun fr2 d2 v2 H2 k2 r2 hd => ?_
  obtain ⟨fs, gs, rfl, rfl, hsp⟩ := hd
  have R2 := (R.mono F k1).mono F k2
  have y1 := r1.dr.mv (Mv.avo F k2)
  have y2 := r2.dr
  cases id y1 with
  | obj n1 e1 q1 =>
    cases id y2 with
    | obj n2 e2 q2 =>
      refine ⟨_, _, _, _, _, _, rfl, rfl, e1, e2, rfl, Avo Av B o st, _, Qd, Xd, k2.2, R2.frok F, .cons y1 (.cons y2 .nil), hsp, fun fr d v H' k r hq => ?_, fun C fs d H' k r h => hx C fs d H' ((k1.trans k2).trans k) r h⟩
      exact hk fr d v H' ((k1.trans k2).trans k) (r.back R.kp.2 (k1.trans k2)) hq
theorem we_binI (ha : WE g X a wa) (hb : WE g X b wb) (hc : ∀ ta tb, PE X a ta → PE X b tb → PE X e (tBinI C (spX g 2 SP) (fun σ cls d H => W cls d σ H) ta tb)) :
    WEX g X W e (fun st Q Xd => wa st fun _ x => wb st fun _ y => ∃ fs i, x = .obj C fs ∧ y = .int i ∧ SP [x, y] Q Xd) := by
  obtain ⟨t, p, q⟩ := ha
  obtain ⟨t2, p2, q2⟩ := hb
  refine ⟨_, hc t t2 p p2, fun Av B gh H0 o σ st H Q Qd Xd hg F R hw hk hx => ?_⟩
  refine q Av B gh H0 o σ st H _ _ hg F R hw fun fr d v H1 k1 r1 hw1 => ?_
  refine q2 Av B gh H0 o σ st H1 _ _ hg F (R.mono F k1) hw1 fun fr2 d2 v2 H2 k2 r2 hd => ?_
  obtain ⟨fs, i, rfl, rfl, hsp⟩ := hd
  have R2 := (R.mono F k1).mono F k2
  have y1 := r1.dr.mv (Mv.avo F k2)
  have y2 := r2.dr
  have e : v2 = .int i := by cases y2; rfl
  subst e
  cases id y1 with
  | obj n1 e1 q1 =>
    refine ⟨_, _, _, _, rfl, rfl, e1, rfl, Avo Av B o st, _, Qd, Xd, k2.2, R2.frok F, .cons y1 (.cons y2 .nil), hsp, fun fr d v H' k r hq => ?_, fun C fs d H' k r h => hx C fs d H' ((k1.trans k2).trans k) r h⟩
    exact hk fr d v H' ((k1.trans k2).trans k) (r.back R.kp.2 (k1.trans k2)) hq
theorem we_binR (ha : WE g X a wa) (hb : WE g X b wb) (hc : ∀ ta tb, PE X a ta → PE X b tb → PE X e (tBinR C (spX g 2 SP) (fun σ cls d H => W cls d σ H) ta tb)) :
    WEX g X W e (fun st Q Xd => wa st fun _ x => wb st fun _ y => ∃ fs i, x = .int i ∧ y = .obj C fs ∧ SP [y, x] Q Xd) := by
  obtain ⟨t, p, q⟩ := ha
  obtain ⟨t2, p2, q2⟩ := hb
  refine ⟨_, hc t t2 p p2, fun Av B gh H0 o σ st H Q Qd Xd hg F R hw hk hx => ?_⟩
  refine q Av B gh H0 o σ st H _ _ hg F R hw fun fr d v H1 k1 r1 hw1 => ?_
  refine q2 Av B gh H0 o σ st H1 _ _ hg F (R.mono F k1) hw1 fun fr2 d2 v2 H2 k2 r2 hd => ?_
  obtain ⟨fs, i, rfl, rfl, hsp⟩ := hd
  have R2 := (R.mono F k1).mono F k2
  have y1 := r1.dr
  have y2 := r2.dr
  have e : v = .int i := by cases y1; rfl
  subst e
  cases id y2 with
  | obj n1 e1 q1 =>
    refine ⟨_, _, _, _, rfl, rfl, e1, rfl, Avo Av B o st, _, Qd, Xd, k2.2, R2.frok F, .cons y2 (.cons (.int i) .nil), hsp, fun fr d v H' k r hq => ?_, fun C fs d H' k r h => hx C fs d H' ((k1.trans k2).trans k) r h⟩
    exact hk fr d v H' ((k1.trans k2).trans k) (r.back R.kp.2 (k1.trans k2)) hq
end
end DW
namespace L2
open PySem PySem.Spec PyProof.Rows
/-- list.count, flat items -/
def rCntF (K : PySem.W.Frag) : V → List V → Hp → VK → Prop := fun x xs H Q => ∃ (p : Addr) (ys : List V) (y : V), x = .ref p ∧ xs = [y] ∧ SqL K H p ys ∧ flatV y = true ∧ ys.all flatV = true ∧ Q (.int (ys.countP fun z => eqV z y : Nat)) H
theorem count_eqU {y : V} : ∀ {ys : List V} {its : List Value}, Vals ys its → ys.all flatV = true → its.countP (eqU y) = ys.countP fun z => eqV z y
  | _, _, .nil, _ => rfl
  | z :: ys, u :: its, .cons r t, f => by
    rw [List.all_cons, Bool.and_eq_true] at f
    rw [List.countP_cons, List.countP_cons, count_eqU t f.2, eqU_of r f.1]
theorem mt_countF {X : Cx} : MtR X "list.count" (rCntF X.K) := by
  intro pins s σ H x xs v us Q I rx rxs h
  obtain ⟨p, ys, y, rfl, rfl, hs, fy, fys, q⟩ := h
  cases rx
  obtain ⟨u, rfl, ru⟩ := rxs.one
  obtain ⟨its, rv, ⟨⟨cls, dd, data, sl⟩, n, ho, hc, hdn, hd⟩, hlen⟩ := I.list hs
  simp only at hc hd
  subst hc hd
  refine call_meets PySem.F.slot_list_count ⟨_, ho, rfl⟩ PySem.F.entry_list_count (PySem.F.args_list_count_2 _ _)
    (SeqAt.list_countAt p its.toArray n dd sl u (eqU y)) ⟨ho, fun z hz => mem_eqAt ru fy rv fys z (by simpa using hz), ?_⟩
  refine ⟨.int (ys.countP fun z => eqV z y : Nat), H, I.tok _, ⟨s.toks, ?_⟩, q⟩
  show Value.int ((its.toArray.toList.countP (eqU y) : Nat) : Int) s.toks = _
  rw [show its.toArray.toList = its from rfl, count_eqU rv fys]
end L2
namespace DW
open PySem PySem.Spec PyProof.Rows L2
section
variable {g : Gd} {X : Cx} {e eo ex : Expr} {wo wx : WP}
/-- xs.count(x), flat items -/
theorem we_count (ho : WR g X eo wo) (hx : WE g X ex wx) (hp : ∀ t0 t1, PE X eo t0 → PE X ex t1 → PE X e (tBM X.K "list" (rCntF X.K) t0 (tCons t1 tNil))) :
    WE g X e (fun st Q => wo st fun _ d => ∃ ds, d = .lst ds ∧ wx st fun _ y => y.flat = true ∧ ds.all D.flat = true ∧ Q false (.int ((ds.map D.fv).countP fun z => eqV z y.fv : Nat))) := by
  obtain ⟨t, p, q⟩ := ho
  obtain ⟨t2, p2, q2⟩ := hx
  refine ⟨_, hp t t2 p p2, fun Av B gh H0 o σ st H Q Qd hg F R hw hk => ?_⟩
  refine q Av B gh H0 o σ st H _ _ hg F R hw fun fr d v H1 k1 r1 hw1 => ?_
  obtain ⟨ds, rfl, hw1⟩ := hw1
  obtain ⟨p0, vs0, rfl, e0, _⟩ := id r1.lst
  refine ⟨.inl ⟨rfl, vs0, .inl (.inl e0)⟩, ?_⟩
  refine q2 Av B gh H0 o σ st H1 _ _ hg F (R.mono F k1) hw1 fun fr2 d2 v2 H2 k2 r2 hd => ?_
  obtain ⟨fy, fds, hq⟩ := hd
  obtain ⟨p1, vs, e, e1, rr⟩ := (r1.mono (fun a h => Avo.ta F h) (fun a h => .inl (F.ta a h)) k2).lst
  obtain ⟨rfl, fv⟩ := rr.flat fds
  obtain ⟨rfl, fy2⟩ := r2.dr.flat fy
  refine ⟨p1, _, _, e, rfl, .inl (.inl e1), fy2, fv, ?_⟩
  exact hk false _ _ H2 (k1.trans k2) (.old (.int _)) hq
end
theorem wex_or {g : Gd} {X : Cx} {W : WX} {e : Expr} {w1 w2 : WPX} (h1 : WEX g X W e w1) (h2 : WEX g X W e w2) : WEX g X W e (fun st Q Xd => w1 st Q Xd ∨ w2 st Q Xd) := by
  obtain ⟨t1, p1, q1⟩ := h1
  obtain ⟨t2, p2, q2⟩ := h2
  refine ⟨fun σ H Q => t1 σ H Q ∨ t2 σ H Q, ⟨fun pins s σ H Q I h => h.elim (p1.run pins s σ H Q I) (p2.run pins s σ H Q I)⟩, fun Av B gh H0 o σ st H Q Qd Xd hg F R hw hk hx => ?_⟩
  rcases hw with hw | hw
  · exact .inl (q1 Av B gh H0 o σ st H Q Qd Xd hg F R hw hk hx)
  · exact .inr (q2 Av B gh H0 o σ st H Q Qd Xd hg F R hw hk hx)
end DW
namespace PySem
namespace TooManyX
open PySem.W PySem.Calls PyProof.Rows PySem.HandSPX
/-! ### the text of __init__ -/
def iA (p1 p2 : Pos) : Arguments := { posonlyargs := [], args := [{ arg := "self", annotation := none, pos := p1 }, { arg := "limit", annotation := none, pos := p2 }], vararg := none, kwonlyargs := [], kw_defaults := [], kwarg := none, defaults := [] }
def iB (q1 q2 q3 q4 : Pos) : List Stmt := [.Assign [.Attribute (.Name "self" q1) "limit" q2] (.Name "limit" q3) q4]
def iS : Scope := { kind := .function, names := [(PySem.Str.ofString "self", .local), (PySem.Str.ofString "limit", .local)], isGenerator := false, isCoroutine := false, more := [] }
/-- what the written part says of TooMany, at C, and of its __init__, at fI -/
structure TooManyTxt (K : Frag) (mg : Str → Option Value) (C fI : Addr) : Prop where
  gC : mg "TooMany" = some (.ref C)
  cls : ∃ nm q N bs bm sn sub ab col dd k0 k1 k2 k3 k5, K.lookup C = some (excClassObj nm q C N bs bm true sn sub ab col dd k0 k1 k2 k3 k5 "ValueError.__new__") ∧ refsVE bm = true
  sa : findIn K (.ref C) "__setattr__" = some (some (.builtin "object.__setattr__"))
  ga : findIn K (.ref C) "__getattribute__" = some (some (.builtin "BaseException.__getattribute__"))
  gg : findIn K (.ref C) "__getattr__" = some none
  noN : findIn K (.ref C) "limit" = some none
  iC : findIn K (.ref C) "__init__" = some (some (.ref fI))
  tC : typeIn K (.ref fI) = some (.type "function")
  kC : keepIn K (.ref C) = true
  exC : subIn K (.ref C) (.type "BaseException") = some true
  tyC : typeIn K (.ref C) = some (.type "type")
  hdC : hasDictIn K C = true
  te : exmOne K (.ref C) (.ref C) = some true
  fn : ∃ (oc : Value) (od : Option Addr) (doc pm : Value) (an : Option Addr) (cdv ct : Value) (osl : Array (Option Value)) (p1 p2 q1 q2 q3 q4 : Pos),
    K.lookup fI = some ⟨oc, od, .func (fnOf "__init__" "TooMany.__init__" (iA p1 p2) (iB q1 q2 q3 q4) iS .none .none doc pm an cdv ct), osl⟩ ∧ codeIn K cdv "TooMany.__init__" = true
theorem one_size (v : Value) : [v].length ≤ sizeLine := by
  rw [sizeLine_eq]
  exact (by decide : 1 ≤ 16777216)
theorem kept_but {K : Frag} {h h' : Heap} {x : Addr} (X : K.In h) (hx : K.lookup x = none) (k : ∀ b o, b ≠ x → h.get? b = some o → h'.get? b = some o) : K.In h' := fun a o e =>
  k a o (fun z => by rw [z, hx] at e; cases e) (X a o e)
theorem ldC {M : Model} {s : Shared} {name : Str} {scope : Scope} {L a : Addr} {cd : Value} {m : Str → Option Value} {x : Str} {pos : Pos} {v : Value} {Q : Value → Shared → Prop} {A : Around} {E : Value → Shared → Prop} (hn : s.heap.Ns L m) (hv : m x = some v) (h : Q v s)
    (hk : scope.kind = .function := by rfl) (hl : (envOfC name scope L a cd).kindOf x = some .local := by rfl) (hd : (x == ("__debug__" : Str)) = false := by decide) :
    wpAny M A (eval (.Name x pos) (envOfC name scope L a cd)) Q E s := wpAny_Name (wpAny_loadName_local hk hl hn hv h) hd
/-- what __init__ leaves of a fresh exception at x -/
structure InitEnd (h h' : Heap) (x C dx t1 : Addr) (v : Value) : Prop where
  keep : ∀ b o, b ≠ x → h.get? b = some o → h'.get? b = some o
  obj : h'.get? x = some { cls := .ref C, dict := some dx, data := .fields #[.ref t1, .none, .none, .none, .bool false, .none] }
  dbig : h.objs.size ≤ dx
  dne : dx ≠ x
  ns : h'.Ns1 dx (fun y => if y = "limit" then some v else none)
/-- a made TooMany -/
structure OwnMade (h h' : Heap) (e C d : Addr) (v : Value) : Prop where
  keep : ∀ b o, h.get? b = some o → h'.get? b = some o
  new : h.objs.size ≤ e
  obj : ∃ oe vs, h'.get? e = some oe ∧ oe.cls = .ref C ∧ oe.dict = some d ∧ oe.data = .fields vs ∧ vs[1]? = some .none
  dbig : h.objs.size ≤ d
  dne : d ≠ e
  ns : h'.Ns1 d (fun y => if y = "limit" then some v else none)
section
variable {prog : Program} {w : World} {A : Around} {E : Value → Shared → Prop} {R : Result → Shared → Prop} {s : Shared} {K : Frag} {mg : Str → Option Value} {C fI : Addr}
theorem TooMany_init0 (T : TooManyTxt K mg C fI) {x t0 : Addr} {v : Value} (X : K.In s.heap) (hlim : s.heap.NoLimit) (hx : s.heap.get? x = some (excO C t0)) (hnx : K.lookup x = none) (hroom : A.depth < recursionLimit)
    (hq : ∀ h' tk dx, InitEnd s.heap h' x C dx t0 v → R (.ok (.ret .none)) { s with heap := h', toks := tk }) :
    codeAny (model prog w) A (.call (.ref fI) ⟨[.ref x, v], []⟩) R s := by
  obtain ⟨oc, od, doc, pm, an, cdv, ct, osl, p1, p2, q1, q2, q3, q4, ho, hcd⟩ := T.fn
  obtain ⟨nm, q, N, bs, bm, sn, sub, ab, col, dd, k0, k1, k2, k3, k5, hC, hbm⟩ := T.cls
  have hcl : clsIn K C = some { name := nm, bases := bs, mro := .ref C :: bm, ns := N, qualname := q, hasDict := true, slotNames := sn, subclasses := sub, abstract := ab, collection := col, hasDel := false } := by unfold clsIn; rw [hC] <;> rfl
  refine Att.call_fn (binds := [("self", .ref x), ("limit", v)]) X hlim ho hcd hroom (BindsTo.of_eq (by first | rfl | with_unfolding_all rfl)) (by first | rfl | decide | with_unfolding_all rfl) (fun s₁ IC => ?_) rfl rfl rfl
  obtain ⟨h₁, tk₁, rfl⟩ := IC.toInCall.same
  have k : ∀ b o, s.heap.get? b = some o → h₁.get? b = some o := IC.toInCall.keep
  have hn := IC.toInCall.ns
  have hxL : s.heap.objs.size ≠ x := Nat.ne_of_gt (Heap.lt_size hx)
  have X₁ : K.In h₁ := X.keeps k
  have hx₁ := k _ _ hx
  -- self.by = by
  show wpAny _ _ (execs _ _) _ _ _
  refine wpAny_execs_cons (plainObj_wpAny_Assign_Attribute ?_)
  refine ldC (v := v) hn (by first | rfl | with_unfolding_all rfl | kernel_rfl) (ldC (v := .ref x) hn (by first | rfl | with_unfolding_all rfl | kernel_rfl) ?_)
  refine set_plain X₁ (ox := excO C t0) (od := none) ⟨hx₁, rfl, rfl, trivial⟩ T.sa ?_
  refine exc_osa X₁ hx₁ hcl (show refsVE (.ref C :: bm) = true from hbm) rfl T.noN (fun h₃ tk₃ dx k₃ dn dne hx₃ hn₃ => ?_)
  show wpAny _ _ (execs _ _) _ _ _
  have z : s.heap.objs.size < h₁.objs.size := hn.lt
  exact wpAny_execs_nil (hq h₃ tk₃ dx ⟨fun b o hb e => k₃ b o hb (k b o e), hx₃, Nat.le_of_lt (Nat.lt_of_lt_of_le z dn), dne, hn₃⟩)
theorem TooMany_made0 (T : TooManyTxt K mg C fI) {v : Value} (X : K.In s.heap) (hlim : s.heap.NoLimit) (hroom : A.depth + 1 < recursionLimit)
    (hq : ∀ h' tk e d, OwnMade s.heap h' e C d v → R (.ok (.ret (.ref e))) { s with heap := h', toks := tk }) :
    codeAny (model prog w) A (.call (.ref C) ⟨[v], []⟩) R s := by
  obtain ⟨nm, q, N, bs, bm, sn, sub, ab, col, dd, k0, k1, k2, k3, k5, hC, hbm⟩ := T.cls
  obtain ⟨hp, g, dr, tk, os⟩ := s
  have k : ∀ b o, hp.get? b = some o → ((hp.push (kdv_tup [v])).push (excO C hp.objs.size)).get? b = some o := fun b o e => Heap.get?_push_of_some _ (Heap.get?_push_of_some _ e)
  have hget : ((hp.push (kdv_tup [v])).push (excO C hp.objs.size)).get? (hp.objs.size + 1) = some (excO C hp.objs.size) := by heap_get
  have hnx : K.lookup (hp.objs.size + 1) = none := by
    cases e : K.lookup (hp.objs.size + 1) with
    | none => rfl
    | some o =>
      have z : hp.get? (hp.objs.size + 1) = some o := X _ _ e
      exact absurd (Nat.lt_of_succ_lt (Heap.lt_size z)) (Nat.lt_irrefl _)
  refine call_own F.excBase_ValueError (fun X => refsVE_contains X bm hbm) (X _ _ hC) (looks_findIn X T.iC) (fun self => bind_fn X self T.tC) (one_size v) ?_
  refine TooMany_init0 (s := ⟨(hp.push (kdv_tup [v])).push (excO C hp.objs.size), g, dr, tk, os⟩) T (X.keeps k) (hlim.keeps k) hget hnx ?_ fun h' tk' dx ⟨k', hx, dn, dne, hns⟩ => ?_
  · show A.depth + 1 < recursionLimit
    exact hroom
  · have old : ∀ b o, hp.get? b = some o → h'.get? b = some o := fun b o e => k' b o (Nat.ne_of_lt (Nat.lt_succ_of_lt (Heap.lt_size e))) (k b o e)
    have z : hp.objs.size + 1 + 1 ≤ dx := by
      first
        | (simpa only [Heap.size_push] using dn)
        | exact dn
        | (have q := dn; rw [Heap.size_push, Heap.size_push] at q; exact q)
    exact ⟨rfl, hq h' tk' (hp.objs.size + 1) dx ⟨old, Nat.le_succ _, ⟨_, _, hx, rfl, rfl, rfl, rfl⟩, Nat.le_trans (Nat.le_trans (Nat.le_succ _) (Nat.le_succ _)) z, dne, hns⟩⟩
end
end TooManyX
end PySem
namespace L2
open PySem PySem.Spec PyProof.Rows
theorem relO_TooMany {v : V} {v' : Value} (r : RelV v v') (f : Str) : RelO (List.lookup f [(("limit" : Str), v)]) (if f = "limit" then some v' else none) := by
  by_cases hw : f = "limit"
  · subst hw
    rw [if_pos rfl]
    have q : List.lookup ("limit" : Str) [(("limit" : Str), v)] = some v := by simp [List.lookup]
    rw [q]
    exact r
  · rw [if_neg hw]
    have qw : (f == ("limit" : Str)) = false := by simpa using hw
    have q2 : List.lookup f [(("limit" : Str), v)] = none := by simp [List.lookup, qw]
    rw [q2]
    trivial
section
variable {X : Cx} {C fI : Addr}
/-- TooMany(e) -/
def tMkTooMany (C : Addr) (ta : TA) : St → Hp → XK → Prop := fun σ H Q => ta σ H fun vs H1 => ∃ v, vs = [v] ∧ ∀ d, H1 d = none → Q (.ref C) (some d) (upd H1 d (.xd [(("limit" : Str), v)]))
theorem pmk_TooMany {a : Expr} {ta : TA} {p pos : Pos} {k : Nat} (T : PySem.TooManyX.TooManyTxt X.K X.mg C fI) (hr : Room k X.A) (ha : PA X [a] ta) (hg : Gl X "TooMany" := by rfl)
    (he : starEach (a :: []) X.env = (false, eval a X.env) :: starEach [] X.env := by rfl) (hpl : (backTo pos (starEach [] X.env)).any (·.1) = false := by rfl) :
    PMk X (.Call (.Name "TooMany" p) [a] [] pos) (tMkTooMany C ta) := by
  intro pins s σ H Q I h
  refine wpAny_Call_Name_kw (ld_glob I hg T.gC ?_)
  refine PySem.W.callWith_K (h₀ := X.base) I.ok.mod.kin T.kC (thn (ha.run pos pins s σ H _ I h) fun us s1 hh => ?_) he hpl
  obtain ⟨vs, H1, I1, r1, v, ev, q1⟩ := hh
  subst ev
  refine ⟨I1.kIn, ?_⟩
  cases r1 with
  | cons rv rn =>
    rename_i v' us'
    cases rn
    show wpAny _ _ (call (.ref C) [v']) _ _ _
    have hlim := I1.nolimit
    obtain ⟨hp, g, dr, tk, os⟩ := s1
    refine wpAny_call (PySem.TooManyX.TooMany_made0 T I1.kIn hlim (by have := hr.dp; omega) fun h' tk' e d M => ?_)
    show MkP X pins σ Q (.ref e) ⟨h', g, dr, tk', os⟩
    obtain ⟨oe, fv, hoe, hc, hd, hdat, h1⟩ := M.obj
    have hns := M.ns
    obtain ⟨G', g1, g2⟩ := restrict h' fun b => decide (b ≠ e)
    have gk : ∀ b, b ≠ e → G'.get? b = h'.get? b := fun b hb => g1 b (decide_eq_true hb)
    have ge : G'.get? e = none := g2 e (by simp)
    have old : ∀ b o, hp.get? b = some o → G'.get? b = some o := fun b o q => (gk b (Nat.ne_of_lt (Nat.lt_of_lt_of_le (Heap.lt_size q) M.new))).trans (M.keep b o q)
    have ob : ObjOk X.prog X.w (upd H1 d (.xd [(("limit" : Str), v)])) G' d (.xd [(("limit" : Str), v)]) :=
      ⟨_, hns.at (fun o q => (gk d M.dne).trans q), fun f => relO_TooMany rv f⟩
    have J : Inv X pins σ (upd H1 d (.xd [(("limit" : Str), v)])) ⟨G', g, dr, tk', os⟩ := I1.laid (t' := tk') old M.dbig ob
    refine ⟨e, oe, fv, ⟨G', g, dr, tk', os⟩, _, .ref C, some d, rfl, J, fun b o q => ?_, ge, hoe, ⟨hc, hd⟩, hdat, h1, ?_, rfl, I1.bare, raises_own T.exC T.tyC, q1 d (I1.hok.fresh M.dbig)⟩
    · by_cases hb : b = e
      · have q' : G'.get? b = some o := q
        rw [hb, ge] at q'; cases q'
      · exact (gk b hb).symm.trans q
    · rw [upd_ne (Ne.symm M.dne)]
      exact I1.hok.fresh M.new
/-- raise TooMany(e) -/
def tRaiseTooMany (C : Addr) (W : WX) (ta : TA) : TS := fun _ σ H => tMkTooMany C ta σ H fun cls d H' => W cls d σ H'
theorem ps_raiseTooMany {a : Expr} {ta : TA} {W : WX} {p pos pos2 : Pos} {k : Nat} (hc : X.calm = true) (T : PySem.TooManyX.TooManyTxt X.K X.mg C fI) (hr : Room k X.A) (tk : Takes X W) (ha : PA X [a] ta) (hg : Gl X "TooMany" := by rfl)
    (he : starEach (a :: []) X.env = (false, eval a X.env) :: starEach [] X.env := by rfl) (hpl : (backTo pos (starEach [] X.env)).any (·.1) = false := by rfl) :
    PS X (.Raise (some (.Call (.Name "TooMany" p) [a] [] pos)) none pos2) (tRaiseTooMany C W ta) := ps_raise hc tk (pmk_TooMany T hr ha hg he hpl)
/-- low.by, low the exception that the suite holds (at a; its class cls, its dict d) -/
def tByTooMany (C : Addr) (a : Addr) (cls : Value) (d : Option Addr) (te : TE) : TE := fun σ H Q => te σ H fun x H1 => x = .ref a ∧ cls = .ref C ∧ ∃ (dd : Addr) (v : V), d = some dd ∧ H1 dd = some (.xd [(("limit" : Str), v)]) ∧ Q v H1
theorem pe_byTooMany {a : Addr} {oe : Obj} {cls : Value} {d : Option Addr} {pn : List (Addr × Obj)} {e : Expr} {te : TE} {pos : Pos} (T : PySem.TooManyX.TooManyTxt X.K X.mg C fI) (hz : Zc cls d oe) (hf : ∃ vs, oe.data = .fields vs) (he : PE (X.suite a ((a, oe) :: pn)) e te)
    (hb : attributeBase e "limit" X.env (eval e X.env) = eval e X.env := by rfl) :
    PE (X.suite a ((a, oe) :: pn)) (.Attribute e "limit" pos) (tByTooMany C a cls d te) := by
  refine ⟨fun pins s σ H Q I h => ?_⟩
  refine attr_of hb (thn (he.run pins s σ H _ I h) fun u s1 hh => ?_)
  obtain ⟨x, H1, I1, rx, ex, ec, dd, v, ed, ea, q⟩ := hh
  subst ex
  obtain rfl : u = Value.ref a := rx
  subst ec
  subst ed
  obtain ⟨ha, _⟩ := I1.pin (a, oe) (List.mem_append_left _ List.mem_cons_self)
  obtain ⟨vs, hd⟩ := hf
  have hx : ObjOk X.prog X.w H1 s1.heap dd (.xd [(("limit" : Str), v)]) := I1.hok dd _ ea
  obtain ⟨mA, hns, hr⟩ := hx
  obtain ⟨od, ho, hl⟩ := lookIn_ns hns
  have l : List.lookup ("limit" : Str) [(("limit" : Str), v)] = some v := by simp [List.lookup]
  obtain ⟨u, hu, ru⟩ := RelO.some_of (v := v) (o := mA "limit") (by rw [← l]; exact hr "limit")
  have J : PySem.W.InstAt s1.heap a oe C (some od) := ⟨ha, hz.1, by unfold PySem.W.notCls; rw [hd] <;> rfl, by rw [hz.2]; exact ho⟩
  exact HandSPX.exc_get I1.kIn J T.ga T.gg T.exC (PySem.W.findObj_own T.hdC T.noN rfl (by rw [hl, hu])) (handed_of ru) ⟨v, H1, I1.tok _, ru, q⟩
end
end L2
namespace DW
open PySem PySem.Spec PyProof.Rows L2

/-- plain things: no object of a class of one's own, no class -/
def D.plain : D → Bool | .rf _ => false | .ty _ => false | .obj _ _ => false | _ => true
def D.isInt : D → Bool | .int _ => true | _ => false
def spIsInt (ds : List D) (Q : RQ) : Prop := ∃ d, ds = [d] ∧ d.plain = true ∧ Q false (.bl d.isInt)
def isGrp (n : Int) : Int → List D → Bool
  | _, [] => true
  | l, .int p :: r => if p < l ∨ n ≤ p then false else isGrp n (p + 1) r
  | _, _ :: _ => false
def D.isGroup (n : Int) : D → Bool | .tup ds => isGrp n 0 ds | _ => false
def D.plain1 : D → Bool | .tup ds => ds.all D.plain | d => d.plain
def spIsGroup (ds : List D) (Q : RQ) : Prop := ∃ n d, ds = [.int n, d] ∧ d.plain1 = true ∧ Q false (.bl (d.isGroup n))
def D.isCount (l : Int) : D → Bool | .int i => decide (0 ≤ i) && decide (i ≤ l) | _ => false
def D.isRow (l : Int) : D → Bool | .lst xs => decide ((xs.length : Int) ≤ l) | .tup xs => decide ((xs.length : Int) ≤ l) | _ => false
def spIsCount (ds : List D) (Q : RQ) : Prop := ∃ d l, ds = [d, .int l] ∧ d.plain = true ∧ Q false (.bl (d.isCount l))
def spIsRow (ds : List D) (Q : RQ) : Prop := ∃ d l, ds = [d, .int l] ∧ d.plain = true ∧ Q false (.bl (d.isRow l))
def spTogether (ds : List D) (Q : RQ) : Prop := ∃ xs ys : List Int, ds = [tI xs, tI ys] ∧ xs.length + ys.length < 60 ∧ ∀ ms : List Int, ms.Pairwise (· < ·) → (∀ k, k ∈ ms ↔ k ∈ xs ∨ k ∈ ys) → Q false (tI ms)
def spApart (ds : List D) (Q : RQ) : Prop := ∃ xs ys : List Int, ds = [tI xs, tI ys] ∧ xs.length ≤ 1000 ∧ Q false (tI (xs.filter fun x => !ys.contains x))
theorem isi_b {K : PySem.W.Frag} {x : D} {t n : String} {b : Bool} {Q : RQ} (h1 : x.tyv = some (.type t)) (h2 : kitB t n = some b) (hq : Q false (.bl b)) (h3 : ∀ C fs, x = .obj C fs → InsT K C := by intro C fs h; cases h) (hx : True := trivial) : mIsi K [x, .ty n] Q :=
  ⟨_, _, b, h1, h3, rfl, kit_ty h2, hq⟩
theorem isi_t {K : PySem.W.Frag} {x : D} {t n m : String} {b c : Bool} {Q : RQ} (h1 : x.tyv = some (.type t)) (h2 : kitB t n = some b) (h2' : kitB t m = some c) (hq : Q false (.bl (b || c))) (h3 : ∀ C fs, x = .obj C fs → InsT K C := by intro C fs h; cases h) : mIsi K [x, .tup [.ty n, .ty m]] Q :=
  ⟨_, [.type n, .type m], b || c, h1, h3, ⟨_, _, rfl, rfl, _, _, rfl, rfl, rfl⟩, kitAny_cons (b := b) (kit_ty h2) (fun hb => kitAny_cons (b := c) (kit_ty h2') (fun hc => by rw [hb, hc]; exact kitAny_nil) (fun hc => by rw [hc]; simp)) (fun hb => by rw [hb]; rfl), hq⟩

def spCheck (ds : List D) (Q : RQ) : Prop := ∃ (n : Int) (rows : List (List Int)) (a b : Int), (ds = [.int n, lT rows, .int a, .int b] ∨ ds = [.int n, tT rows, .int a, .int b]) ∧ 0 ≤ n ∧ n ≤ a ∧ (rows.length : Int) ≤ b ∧ rows.length ≤ 1000 ∧ (∀ r ∈ rows, Gp n r) ∧ Q false .non
theorem plain_ints : ∀ r : List Int, (r.map D.int).all D.plain = true
  | [] => rfl
  | x :: r => by simp [D.plain, plain_ints r]
theorem isGrp_gp {n : Int} : ∀ {l : Int} {r : List Int}, r.Pairwise (· < ·) → (∀ x ∈ r, l ≤ x ∧ x < n) → isGrp n l (r.map D.int) = true
  | _, [], _, _ => rfl
  | l, p :: r, hp, hb => by
    rw [List.pairwise_cons] at hp
    have h1 := hb p List.mem_cons_self
    simp only [List.map_cons, isGrp]
    rw [if_neg (by omega)]
    exact isGrp_gp hp.2 fun x hx => ⟨by have := hp.1 x hx; omega, (hb x (List.mem_cons_of_mem _ hx)).2⟩
theorem isGroup_gp {n : Int} {r : List Int} (h : Gp n r) : (tI r).isGroup n = true := isGrp_gp h.1 h.2
end DW
namespace K17
open PySem PySem.Spec PyProof.Rows L2 DW
def topS (i : Nat) : Stmt := PySem.Challenge.pw_crewlists_k17_jobs_joined.main.body.getD i (.Pass ⟨0, 0, 0, 0⟩)
local macro_rules | `(tactic| walk_at "dw") => `(tactic| simp only [rdS_0, rdS_s, rdO_0, rdO_1, rdO_s, startS, endD, mAdd_i, mAdd_b, mAdd_l, mAdd_t, mI_i, mIC_i, mB_i, mLen_l, mLen_t, mList_l, mList_t, mTuple_l, mTuple_t, mInt1_i, mInt1_b, mAbs_i, mIx_l, mIx_t, mSl_l, mSl_t, mSeq_l, mSeq_t, mEnum_l, mEnum_t, mFld_o, mExt_l, mRev_l, mRepr_1, put_f, put_t, frz_0, frz_1, frz_2, frz_s, wpS_0, wpS_1, DW.putAll,
  List.map_cons, List.map_nil, List.cons_append, List.nil_append, List.length_cons, List.length_nil, List.replicate_succ, List.replicate_zero, List.set_cons_zero, List.set_cons_succ, List.set_nil, Nat.reduceAdd, Nat.reduceSub, Nat.zero_add, Bool.not_true, Bool.not_false, if_true, if_false, Bool.false_eq_true, and_true, true_and, decide_eq_true_eq, eq_self, Bool.and_eq_true, Bool.or_eq_true, Bool.not_eq_true, D.bl.injEq, D.int.injEq, D.lst.injEq, D.tup.injEq, exists_eq_left', exists_eq_left, exists_eq_right])
section
variable {g : Gd} {P : Program} {w : World} {K : PySem.W.Frag} {mg : Str → Option Value} {base : Heap} {CJ b c sa : Addr} {cs ns : List Int} {tr : Prop}
abbrev is_integer_s : Stmt := topS 8
theorem is_integer_sc : FnScope ["thing"] ["thing"] (defScope is_integer_s) := ⟨rfl, rfl, rfl, by decide +kernel, rfl, by decide +kernel, by decide +kernel⟩
theorem is_integer_ok {is_integer_f : Addr} {is_integer_fd : FuncData} (T : Bltn mg) (is_integer_D : Dfn K mg "is_integer" "is_integer" is_integer_s ["thing"] is_integer_f is_integer_fd) : FnOk P w K mg base CX0 1 is_integer_f is_integer_fd ["thing"] (spOf g 1 spIsInt) := by
  refine def_ok is_integer_D.F is_integer_sc rfl (fun cdv A fr s H E hr =>
    (wss_one (ws_ret (we_and (we_cb (war_cons (wr_v 0 (pv 0)) (war_cons (we_ty (n := "int") (by rfl) T.int (by decide +kernel)).rd war_nil)) sc_isi (fun t h => pe_callB call_isiA (by rfl) T.isinstance (by decide +kernel) h)) (we_one (we_not (we_cb (war_cons (wr_v 0 (pv 0)) (war_cons (we_ty (n := "bool") (by rfl) T.bool (by decide +kernel)).rd war_nil)) sc_isi (fun t h => pe_callB call_isiA (by rfl) T.isinstance (by decide +kernel) h)))))))) ?_
  rintro ds Q hl ⟨d, rfl, hp, hq⟩
  cases d <;> walk_at "dw"
  case rf => simp [D.plain] at hp
  case ty => simp [D.plain] at hp
  case obj => simp [D.plain] at hp
  case bl =>
    refine isi_b (b := true) rfl (by decide +kernel) ⟨_, rfl, ?_⟩
    walk_at "dw"
    exact isi_b (b := true) rfl (by decide +kernel) ⟨_, rfl, hq⟩
  case int =>
    refine isi_b (b := true) rfl (by decide +kernel) ⟨_, rfl, ?_⟩
    walk_at "dw"
    exact isi_b (b := false) rfl (by decide +kernel) ⟨_, rfl, hq⟩
  all_goals exact isi_b (b := false) rfl (by decide +kernel) ⟨_, rfl, hq⟩

abbrev is_group_s : Stmt := topS 9
theorem is_group_sc : FnScope ["size", "thing", "least", "person"] ["size", "thing"] (defScope is_group_s) := ⟨rfl, rfl, rfl, by decide +kernel, rfl, by decide +kernel, by decide +kernel⟩
theorem is_group_ok {is_group_f : Addr} {is_group_fd : FuncData} (T : Bltn mg) (is_group_D : Dfn K mg "is_group" "is_group" is_group_s ["size", "thing"] is_group_f is_group_fd)
    {is_integer_f : Addr} {is_integer_fd : FuncData} (is_integer_D : Dfn K mg "is_integer" "is_integer" is_integer_s ["thing"] is_integer_f is_integer_fd) (is_integer_G : FnOk P w K mg base CX0 1 is_integer_f is_integer_fd ["thing"] (spOf g 1 spIsInt)) : FnOk P w K mg base CX0 2 is_group_f is_group_fd ["size", "thing"] (spOf g 2 spIsGroup) := by
  refine def_ok is_group_D.F is_group_sc rfl (fun cdv A fr s H E hr =>
    (wss_cons (ws_if (wt_not (wt_val (we_cb (war_cons (wr_v 1 (pv 1)) (war_cons (we_ty (n := "tuple") (by rfl) T.tuple (by decide +kernel)).rd war_nil)) sc_isi (fun t h => pe_callB call_isiA (by rfl) T.isinstance (by decide +kernel) h)))) (wss_one (ws_ret we_bl)) wss_nil)
    (wss_cons (ws_set 2 we_int (fun te h => ps_set (i := 2) is_group_sc.nd rfl (by first | exact Or.inl rfl | exact Or.inr rfl) h))
    (wss_cons (ws_for rfl (wi_seq (we_v 1 (pv 1))) (wg_name 3 (pg_name is_group_sc.nd rfl (by first | exact Or.inl rfl | exact Or.inr rfl)))
    (wss_cons (ws_if (ww_t (ww_or (wt_not (wt_val (we_call (wa_cons (we_v 3 (pv 3)) wa_nil) (fun t h => pe_call is_integer_G (hr.mono (by decide)) (by rfl) is_integer_D.m is_integer_D.F.kp is_integer_D.b .nil pass0 h)))) (ww_or (wt_cmp op_lt s2_B (wr_v 3 (pv 3)) (wr_v 2 (pv 2)) (nomark _)) (ww_or1 (wt_cmp op_ge s2_B (wr_v 3 (pv 3)) (wr_v 0 (pv 0)) (nomark _)))))) (wss_one (ws_ret we_bl)) wss_nil)
    (wss_one (ws_set 2 (we_bin op_addA s2_add (wr_v 3 (pv 3)) (we_int).rd) (fun te h => ps_set (i := 2) is_group_sc.nd rfl (by first | exact Or.inl rfl | exact Or.inr rfl) h)))))
    (wss_one (ws_ret we_bl)))))) ?_
  rintro ds Q hl ⟨n, d, rfl, hp, hq⟩
  cases d
  case rf => simp [D.plain1, D.plain] at hp
  case ty => simp [D.plain1, D.plain] at hp
  case obj => simp [D.plain1, D.plain] at hp
  case tup es =>
    walk_at "dw"
    refine isi_b (b := true) rfl (by decide +kernel) ⟨_, rfl, ?_⟩
    show wFor _ _ _ es [.val (.int n), .val (.tup es), .val (.int 0), .un]
    have hp2 : es.all D.plain = true := hp
    have hq2 : Q false (.bl (isGrp n 0 es)) := hq
    generalize D.tup es = th
    clear hp hq hl
    generalize (0 : Int) = l at hq2 ⊢
    generalize Sl.un = s3
    induction es generalizing l s3 with
    | nil => exact hq2
    | cons d r ih =>
      simp only [List.all_cons, Bool.and_eq_true] at hp2
      refine ⟨d, rfl, hp2.1, _, rfl, ?_⟩
      cases d
      case int p =>
        walk_at "dw"
        rw [if_neg (by simp [D.isInt])]
        simp only [isGrp] at hq2
        by_cases h1 : p < l
        · rw [if_pos h1]
          simpa [h1] using hq2
        · rw [if_neg h1]
          by_cases h2 : n ≤ p
          · rw [if_pos h2]
            simpa [h1, h2] using hq2
          · rw [if_neg h2]
            exact ih hp2.2 (p + 1) (by simpa [h1, h2] using hq2) (.val (.int p))
      all_goals exact hq2
  all_goals walk_at "dw"
  all_goals exact isi_b (b := false) rfl (by decide +kernel) ⟨_, rfl, hq⟩

abbrev is_count_s : Stmt := topS 17
theorem is_count_sc : FnScope ["thing", "limit"] ["thing", "limit"] (defScope is_count_s) := ⟨rfl, rfl, rfl, by decide +kernel, rfl, by decide +kernel, by decide +kernel⟩
theorem is_count_ok {is_count_f : Addr} {is_count_fd : FuncData} (T : Bltn mg) (is_count_D : Dfn K mg "is_count" "is_count" is_count_s ["thing", "limit"] is_count_f is_count_fd)
    {is_integer_f : Addr} {is_integer_fd : FuncData} (is_integer_D : Dfn K mg "is_integer" "is_integer" is_integer_s ["thing"] is_integer_f is_integer_fd) (is_integer_G : FnOk P w K mg base CX0 1 is_integer_f is_integer_fd ["thing"] (spOf g 1 spIsInt)) : FnOk P w K mg base CX0 2 is_count_f is_count_fd ["thing", "limit"] (spOf g 2 spIsCount) := by
  refine def_ok is_count_D.F is_count_sc rfl (fun cdv A fr s H E hr =>
    (wss_one (ws_ret (we_and (we_call (wa_cons (we_v 0 (pv 0)) wa_nil) (fun t h => pe_call is_integer_G (hr.mono (by decide)) (by rfl) is_integer_D.m is_integer_D.F.kp is_integer_D.b .nil pass0 h)) (we_one (we_chain op_le op_le s2_B s2_B (we_int).rd (wr_v 0 (pv 0)) (wr_v 1 (pv 1)) (fun a b c => pe_chain op_le op_le a b c))))))) ?_
  rintro ds Q hl ⟨d, l, rfl, hp, hq⟩
  refine ⟨rfl, d, rfl, hp, _, rfl, ?_⟩
  cases d <;> walk_at "dw"
  case int i =>
    simp only [D.isCount] at hq
    rw [if_pos (by rfl)]
    by_cases h1 : 0 ≤ i
    · rw [if_pos h1]; simpa [h1] using hq
    · rw [if_neg h1]; simpa [h1] using hq
  all_goals exact hq

abbrev is_row_s : Stmt := topS 18
theorem is_row_sc : FnScope ["thing", "limit"] ["thing", "limit"] (defScope is_row_s) := ⟨rfl, rfl, rfl, by decide +kernel, rfl, by decide +kernel, by decide +kernel⟩
theorem is_row_ok {is_row_f : Addr} {is_row_fd : FuncData} (T : Bltn mg) (is_row_D : Dfn K mg "is_row" "is_row" is_row_s ["thing", "limit"] is_row_f is_row_fd) : FnOk P w K mg base CX0 1 is_row_f is_row_fd ["thing", "limit"] (spOf g 2 spIsRow) := by
  refine def_ok is_row_D.F is_row_sc rfl (fun cdv A fr s H E hr =>
    (wss_one (ws_ret (we_and (we_cb (war_cons (wr_v 0 (pv 0)) (war_cons (we_tup (wa_cons (we_ty (n := "list") (by rfl) T.list (by decide +kernel)) (wa_cons (we_ty (n := "tuple") (by rfl) T.tuple (by decide +kernel)) wa_nil))).rd war_nil)) sc_isi (fun t h => pe_callB call_isiA (by rfl) T.isinstance (by decide +kernel) h)) (we_one (we_cmp op_le s2_B (we_cb (war_cons (wr_v 0 (pv 0)) war_nil) sc_len (fun t h => pe_callB call_len_seq (by rfl) T.len (by decide +kernel) h)).rd (wr_v 1 (pv 1)) (nomark _))))))) ?_
  rintro ds Q hl ⟨d, l, rfl, hp, hq⟩
  cases d
  case rf => simp [D.plain] at hp
  case ty => simp [D.plain] at hp
  case obj => simp [D.plain] at hp
  all_goals walk_at "dw"
  case lst xs => exact ⟨le_line (by decide), isi_t (b := true) (c := false) rfl (by decide +kernel) (by decide +kernel) ⟨_, rfl, hq⟩⟩
  case tup xs => exact ⟨le_line (by decide), isi_t (b := false) (c := true) rfl (by decide +kernel) (by decide +kernel) ⟨_, rfl, hq⟩⟩
  all_goals exact ⟨le_line (by decide), isi_t (b := false) (c := false) rfl (by decide +kernel) (by decide +kernel) ⟨_, rfl, hq⟩⟩

abbrev check_jobs_s : Stmt := topS 19
theorem check_jobs_sc : FnScope ["size", "jobs", "most_people", "most_jobs", "at", "job"] ["size", "jobs", "most_people", "most_jobs"] (defScope check_jobs_s) := ⟨rfl, rfl, rfl, by decide +kernel, rfl, by decide +kernel, by decide +kernel⟩
theorem check_jobs_ok {check_jobs_f : Addr} {check_jobs_fd : FuncData} (T : Bltn mg) (check_jobs_D : Dfn K mg "check_jobs" "check_jobs" check_jobs_s ["size", "jobs", "most_people", "most_jobs"] check_jobs_f check_jobs_fd)
    {is_count_f : Addr} {is_count_fd : FuncData} (is_count_D : Dfn K mg "is_count" "is_count" is_count_s ["thing", "limit"] is_count_f is_count_fd) (is_count_G : FnOk P w K mg base CX0 2 is_count_f is_count_fd ["thing", "limit"] (spOf g 2 spIsCount))
    {is_group_f : Addr} {is_group_fd : FuncData} (is_group_D : Dfn K mg "is_group" "is_group" is_group_s ["size", "thing"] is_group_f is_group_fd) (is_group_G : FnOk P w K mg base CX0 2 is_group_f is_group_fd ["size", "thing"] (spOf g 2 spIsGroup))
    {is_row_f : Addr} {is_row_fd : FuncData} (is_row_D : Dfn K mg "is_row" "is_row" is_row_s ["thing", "limit"] is_row_f is_row_fd) (is_row_G : FnOk P w K mg base CX0 1 is_row_f is_row_fd ["thing", "limit"] (spOf g 2 spIsRow)) : FnOk P w K mg base CX0 3 check_jobs_f check_jobs_fd ["size", "jobs", "most_people", "most_jobs"] (spOf g 4 spCheck) := by
  refine def_ok check_jobs_D.F check_jobs_sc rfl (fun cdv A fr s H E hr =>
    (wss_cons (ws_if (wt_not (wt_val (we_call (wa_cons (we_v 0 (pv 0)) (wa_cons (we_v 2 (pv 2)) wa_nil)) (fun t h => pe_call is_count_G (hr.mono (by decide)) (by rfl) is_count_D.m is_count_D.F.kp is_count_D.b .nil pass0 h)))) (wss_one ws_never) wss_nil)
    (wss_cons (ws_if (wt_not (wt_val (we_call (wa_cons (we_v 1 (pv 1)) (wa_cons (we_v 3 (pv 3)) wa_nil)) (fun t h => pe_call is_row_G (hr.mono (by decide)) (by rfl) is_row_D.m is_row_D.F.kp is_row_D.b .nil pass0 h)))) (wss_one ws_never) wss_nil)
    (wss_one (ws_for rfl (wi_enum (we_v 1 (pv 1)) (by rfl) T.enumerate) (wg_tup [4, 5] rfl (pg_tup rfl (pgs_cons (pg_name (i := 4) check_jobs_sc.nd rfl (by first | exact Or.inl rfl | exact Or.inr rfl)) (pgs_cons (pg_name (i := 5) check_jobs_sc.nd rfl (by first | exact Or.inl rfl | exact Or.inr rfl)) pgs_nil))))
    (wss_one (ws_if (wt_not (wt_val (we_call (wa_cons (we_v 0 (pv 0)) (wa_cons (we_v 5 (pv 5)) wa_nil)) (fun t h => pe_call is_group_G (hr.mono (by decide)) (by rfl) is_group_D.m is_group_D.F.kp is_group_D.b .nil pass0 h)))) (wss_one ws_never) wss_nil))))))) ?_
  rintro ds Q hl ⟨n, rows, a, b, hds, h0, ha, hb, h1000, hg, hq⟩
  have hcount : (D.int n).isCount a = true := by simp [D.isCount, h0, ha]
  rcases hds with rfl | rfl
  · walk_at "dw"
    refine ⟨_, _, rfl, rfl, ?_⟩
    rw [hcount]
    refine ⟨_, rfl, ?_⟩
    rw [if_neg (by simp)]
    refine ⟨_, _, rfl, rfl, ?_⟩
    rw [show (lT rows).isRow b = true by simp [lT, D.isRow, hb]]
    refine ⟨_, rfl, ?_⟩
    rw [if_neg (by simp)]
    show wFor _ _ _ (enumD (rows.map tI)) _
    refine wFor_inv (fun _ st => ∃ s4 s5, st = [.val (.int n), .val (lT rows), .val (.int a), .val (.int b), s4, s5]) (fun _ _ _ => trivial) _ 0 _ ⟨_, _, rfl⟩ ?_ (fun st h => by obtain ⟨s4, s5, rfl⟩ := h; exact hq)
    rintro i d hi st ⟨s7, s8, rfl⟩ K hK
    obtain ⟨y, hy, rfl⟩ := enumD_get hi
    rw [List.getElem?_map] at hy
    cases hr' : rows[i]? with
    | none => rw [hr'] at hy; cases hy
    | some r =>
      rw [hr'] at hy
      cases hy
      refine ⟨_, rfl, rfl, ?_⟩
      simp only [DW.putAll]
      walk_at "dw"
      refine ⟨_, _, rfl, plain_ints r, ?_⟩
      rw [isGroup_gp (hg r (List.mem_of_getElem? hr'))]
      exact ⟨_, rfl, hK _ ⟨_, _, rfl⟩⟩
  · walk_at "dw"
    refine ⟨_, _, rfl, rfl, ?_⟩
    rw [hcount]
    refine ⟨_, rfl, ?_⟩
    rw [if_neg (by simp)]
    refine ⟨_, _, rfl, rfl, ?_⟩
    rw [show (tT rows).isRow b = true by simp [tT, D.isRow, hb]]
    refine ⟨_, rfl, ?_⟩
    rw [if_neg (by simp)]
    show wFor _ _ _ (enumD (rows.map tI)) _
    refine wFor_inv (fun _ st => ∃ s4 s5, st = [.val (.int n), .val (tT rows), .val (.int a), .val (.int b), s4, s5]) (fun _ _ _ => trivial) _ 0 _ ⟨_, _, rfl⟩ ?_ (fun st h => by obtain ⟨s4, s5, rfl⟩ := h; exact hq)
    rintro i d hi st ⟨s7, s8, rfl⟩ K hK
    obtain ⟨y, hy, rfl⟩ := enumD_get hi
    rw [List.getElem?_map] at hy
    cases hr' : rows[i]? with
    | none => rw [hr'] at hy; cases hy
    | some r =>
      rw [hr'] at hy
      cases hy
      refine ⟨_, rfl, rfl, ?_⟩
      simp only [DW.putAll]
      walk_at "dw"
      refine ⟨_, _, rfl, plain_ints r, ?_⟩
      rw [isGroup_gp (hg r (List.mem_of_getElem? hr'))]
      exact ⟨_, rfl, hK _ ⟨_, _, rfl⟩⟩

abbrev Jobs_init_s : Stmt := inClass (topS 26) 0
theorem Jobs_init_sc : FnScope ["self", "size", "jobs"] ["self", "size", "jobs"] (defScope Jobs_init_s) := ⟨rfl, rfl, rfl, by decide +kernel, rfl, by decide +kernel, by decide +kernel⟩
theorem Jobs_init_ok {Jobs_init_f : Addr} {Jobs_init_fd : FuncData} (T : Bltn mg) (C_Jobs : ClsJ K mg CJ) (Jobs_init_D : IniJ K CJ Jobs_init_s Jobs_init_f Jobs_init_fd) {t_LIMIT : Tok} (N_LIMIT : mg "LIMIT" = some (.int 7 t_LIMIT))
    {check_jobs_f : Addr} {check_jobs_fd : FuncData} (check_jobs_D : Dfn K mg "check_jobs" "check_jobs" check_jobs_s ["size", "jobs", "most_people", "most_jobs"] check_jobs_f check_jobs_fd) (check_jobs_G : FnOk P w K mg base CX0 3 check_jobs_f check_jobs_fd ["size", "jobs", "most_people", "most_jobs"] (spOf g 4 spCheck)) : FnOk P w K mg base CX0 4 Jobs_init_f Jobs_init_fd ["self", "size", "jobs"] (spInit g CJ) := by
  refine Jobs_init_D.F.ok Jobs_init_sc (fun vs H Q E h => ?_) (fun cdv A fr s H vs Q E hr h => ?_)
  · obtain ⟨x, dx, v1, v2, n, rows, d2, Av, rfl, _⟩ := h
    rfl
  obtain ⟨x, dx, v1, v2, n, rows, d2, Av, rfl, hx, ax, nTx, hg, F, r1, r2, hd2, gd, hk⟩ := h
  let X := (cxOf CX0 P w K mg base ["self", "size", "jobs"] "Jobs.__init__" (defScope Jobs_init_s) Jobs_init_f cdv A fr s H E).nox
  obtain ⟨u1, p1, q1⟩ := (show WS g X ((defBody Jobs_init_s).getD 0 (.Pass ⟨0, 0, 0, 0⟩)) _ from (ws_expr (we_call (wa_cons (we_v 1 (pv 1)) (wa_cons (we_v 2 (pv 2)) (wa_cons (we_gi (by rfl) N_LIMIT) (wa_cons (we_gi (by rfl) N_LIMIT) wa_nil)))) (fun t h => pe_call check_jobs_G (hr.mono (by decide)) (by rfl) check_jobs_D.m check_jobs_D.F.kp check_jobs_D.b .nil pass0 h))))
  refine ⟨_, pss_cons p1 (pss_cons (ps_fld (pv 0) (pv 1) rfl) (pss_one (ps_fld (pv 0) (pe_callTy call_tuple_of (by rfl) T.tuple (by decide +kernel) (pa_cons (pv 2) pa_nil)) rfl))), ?_⟩
  let Sh := fun (st : Sx) => st = [.val (.rf x), .val (.int n), .val d2]
  refine q1 Av (fun _ => False) (fun _ _ => False) H (fun _ => 0) _ [.val (.rf x), .val (.int n), .val d2] H _ ⟨Sh, fun _ _ => False, fun _ => False, fun _ => False⟩ hg F (start_rel (N := ["self", "size", "jobs"]) hg (.cons (.rf x) (.cons r1 (.cons r2 .nil)))) ?_ ⟨?_, fun _ _ _ _ _ _ z => z.elim, fun _ _ _ _ _ z => z.elim, fun _ _ _ _ _ z => z.elim⟩
  · walk_at "dw"
    have h7 := gd.len
    refine ⟨n, rows, 7, 7, ?_, gd.n0, gd.n7, by omega, by omega, gd.gp, rfl⟩
    rcases hd2 with rfl | rfl
    · exact .inl rfl
    · exact .inr rfl
  rintro o σ _ H3 R3 rfl
  obtain ⟨v0, e0, d0⟩ := R3.val 0 _ rfl
  obtain ⟨w1, e1, d1⟩ := R3.val 1 _ rfl
  obtain ⟨w2, e2, r4⟩ := R3.val 2 _ rfl
  cases d0
  cases d1
  have nW : ¬ g.W x := fun z => nTx (g.wt _ z)
  have hx3 : H3 x = some (.ins CJ dx []) := R3.kp.1 x _ hx nW
  refine ⟨_, e1, _, e0, x, CJ, dx, [], rfl, hx3, C_Jobs.cl, C_Jobs.n_size, by decide, ?_⟩
  have apx : ∀ a, a ≠ x → (upd H3 x (.ins CJ dx (putF "size" (.int n) []))) a = H3 a := fun a n => upd_ne n
  have m4 : Mv (Avo Av (fun _ => False) o [.val (.rf x), .val (.int n), .val d2]) Av H3 (upd H3 x (.ins CJ dx (putF "size" (.int n) []))) := ⟨fun a u nn e => ⟨fun z => nn (.inl (.inl z)), by rw [apx a fun z => nn (.inl (.inl (z ▸ ax)))]; exact e⟩⟩
  have fit : Fit g Av Av (upd H3 x (.ins CJ dx (putF "size" (.int n) []))) := ⟨g.st H3 _ (fun a ha => apx a fun z => nTx (z ▸ ha)) R3.kp.2, F.ta, F.ta, fun a h => by
    by_cases z : a = x
    · rw [z, upd_same]; exact fun q => nomatch q
    · rw [apx a z]; exact R3.tracked F (.inl (.inl h)), fun a h => h, fun a h n => absurd h n⟩
  refine ⟨w2, e2, sc_tuple (g := g) (X := X) Av Av _ [d2] [w2] (fun y H1 => tVar 0 σ H1 fun x H2 => ∃ a C dx fs, x = .ref a ∧ H2 a = some (.ins C dx fs) ∧ Cls K C ∧ NoAttr K C "jobs" ∧ fs.length < 1000 ∧ Q .non (upd H2 a (.ins C dx (putF "jobs" y fs)))) (fun _ d => d = tT rows) fit (.cons (.inl (r4.mv m4)) .nil) ?_ fun fr d v H5 k5 r5 hd => ?_⟩
  · rcases hd2 with rfl | rfl <;> rfl
  subst hd
  have r5 := r5.dr
  cases r5 with
  | tup nt et rs =>
    rename_i t us
    have ntx : t ≠ x := fun z => nt (z ▸ ax)
    have hx5 : H5 x = some (.ins CJ dx (putF "size" (.int n) [])) := k5.1 x _ upd_same nW
    refine ⟨_, e0, x, CJ, dx, _, rfl, hx5, C_Jobs.cl, C_Jobs.n_jobs, (by show 1 < 1000; decide), ?_⟩
    refine hk _ t us (fun a u e ne nw => ?_) (g.st H5 _ (fun a ha => upd_ne fun z => nTx (z ▸ ha)) k5.2) (by rw [upd_same, putF_size]) (by rw [upd_ne ntx]; exact et) nt (rs.mv ⟨fun a u nn e => ⟨nn, (upd_ne (fun z : a = x => nn (by rw [z]; exact ax))).trans e⟩⟩)
    rw [upd_ne ne]
    exact k5.1 a u (by rw [apx a ne]; exact R3.kp.1 a u e nw) nw
end
end K17
namespace K17
open PySem PySem.Spec PyProof.Rows L2 DW
abbrev l_take_s : Stmt := topS 29
theorem l_take_sc : FnScope ["_law_bag_here", "_law_many", "_law_cell", "_law_mix", "_law_value", "_law_first", "_law_second"] ["_law_bag_here", "_law_many"] (defScope l_take_s) := ⟨rfl, rfl, rfl, by decide +kernel, rfl, by decide +kernel, by decide +kernel⟩
end K17
namespace DW
open PySem PySem.Spec PyProof.Rows L2
def ifBody : Stmt → List Stmt | .If _ b _ _ => b | _ => []
/-- the bag: where the script was read to -/
def BagAt (b c : Addr) (cs : List Int) (H : Hp) : Prop := (∃ n0 n1 n2 : Int, 0 ≤ n0 ∧ 0 ≤ n1 ∧ n1 < 2147483647 ∧ 0 ≤ n2 ∧ H b = some (.lst [.int n0, .int n1, .int n2, .ref c])) ∧ H c = some (.lst (cs.map V.int)) ∧ b ≠ c
def Bg (b c : Addr) (cs : List Int) : Gd where
  W := fun a => a = b
  T := fun a => a = b ∨ a = c
  G := BagAt b c cs
  wt := fun a h => .inl h
  st := fun H H' e h => by
    obtain ⟨⟨n0, n1, n2, h0, h1, h2, h3, hb⟩, hc, hn⟩ := h
    exact ⟨⟨n0, n1, n2, h0, h1, h2, h3, by rw [e b (.inl rfl)]; exact hb⟩, by rw [e c (.inr rfl)]; exact hc, hn⟩
  tr := fun H h a ha => by
    obtain ⟨⟨n0, n1, n2, h0, h1, h2, h3, hb⟩, hc, hn⟩ := h
    rcases ha with rfl | rfl
    · rw [hb]; simp
    · rw [hc]; simp
/-- an item of a list, to be changed at its place -/
theorem get_list {X : Cx} : PGet X (fun o i H Q => ∃ p xs k v, o = .ref p ∧ i = .int k ∧ H p = some (.lst xs) ∧ 0 ≤ k ∧ k < 2 ^ 63 ∧ xs[k.toNat]? = some v ∧ Q v H) := by
  intro pins s σ H o i ov iv Q I ro ri h
  obtain ⟨p, xs, k, v, rfl, rfl, hp, h0, h1, hx, q⟩ := h
  cases ro
  obtain ⟨t, rfl⟩ := ri
  obtain ⟨its, r, pl, hz⟩ := I.list (.inl (.inl hp))
  obtain ⟨u, hu, ru⟩ := r.get hx
  exact wpAny_getItem_list pl.isList h0 h1 (by simpa using hu) ⟨v, H, I, ru, q⟩
theorem at0 {a b c d : V} : atI [a, b, c, d] 0 = some a := atI_nat (j := 0) rfl
theorem at1 {a b c d : V} : atI [a, b, c, d] 1 = some b := atI_nat (j := 1) rfl
theorem at2 {a b c d : V} : atI [a, b, c, d] 2 = some c := atI_nat (j := 2) rfl
theorem at3 {a b c d : V} : atI [a, b, c, d] 3 = some d := atI_nat (j := 3) rfl
def spTake (b : Addr) (ds : List D) (Q : RQ) : Prop := ∃ m : Int, ds = [.rf b, .int m] ∧ 1 ≤ m ∧ m ≤ 1000000 ∧ ∀ k : Int, 0 ≤ k → k < m → Q false (.int k)
end DW
namespace K17
open PySem PySem.Spec PyProof.Rows L2 DW
section
variable {P : Program} {w : World} {K : PySem.W.Frag} {mg : Str → Option Value} {base : Heap}
theorem ok_take {f b c : Addr} {cs : List Int} {fd : FuncData} (hcs : ∀ n ∈ cs, 0 ≤ n) (F : Fun K "_law_take" "_law_take" l_take_s f fd) (mlen : mg "len" = none) (mint : mg "int" = none) :
    FnOk P w K mg base CX0 1 f fd ["_law_bag_here", "_law_many"] (spOf (Bg b c cs) 2 (spTake b)) := by
  refine F.ok l_take_sc (fun vs H Q E h => h.1) (fun cdv A fr s H vs Q E hr h => ?_)
  obtain ⟨hl, Av, ds, Qd, hg, FO, r, ⟨m, rfl, hm1, hm2, hq⟩, hk⟩ := h
  have ev : vs = [.ref b, .int m] := by
    cases r with
    | cons r1 r2 =>
      cases r1
      cases r2 with
      | cons r3 r4 => cases r3; cases r4; rfl
  subst ev
  obtain ⟨⟨n0, n1, n2, h0, h1, h2, h3, hb⟩, hc, hbc⟩ := id hg
  have hcb : c ≠ b := hbc.symm
  let X := (cxOf CX0 P w K mg base ["_law_bag_here", "_law_many", "_law_cell", "_law_mix", "_law_value", "_law_first", "_law_second"] "_law_take" (defScope l_take_s) f cdv A fr s H E).nox
  -- the bag as it stands
  let Sh := fun (H' : Hp) => ∃ n0 n1 n2 : Int, 0 ≤ n0 ∧ 0 ≤ n1 ∧ n1 < 2147483647 ∧ 0 ≤ n2 ∧ H' b = some (.lst [.int n0, .int n1, .int n2, .ref c]) ∧ (∀ a, a ≠ b → H' a = H a)
  have fin : ∀ (H' : Hp) (k : Int), Sh H' → 0 ≤ k → k < m → Q (.int k) H' := by
    rintro H' k ⟨n0, n1, n2, h0, h1, h2, h3, hb', he⟩ k0 k1
    refine hk false (.int k) (.int k) H' ⟨fun a o e n => by rw [he a n]; exact e, ⟨⟨n0, n1, n2, h0, h1, h2, h3, hb'⟩, by rw [he c hcb]; exact hc, hbc⟩⟩ (.old (.int k)) (hq k k0 k1)
  have set_ : ∀ {H1 : Hp} {xs : List V}, (∀ a, a ≠ b → H1 a = H a) → ∀ a, a ≠ b → (upd H1 b (.lst xs)) a = H a := fun h a n => by rw [upd_ne n]; exact h a n
  let inner := ifBody ((defBody l_take_s).getD 0 (.Pass ⟨0, 0, 0, 0⟩))
  have last : ∃ t, PSs X (inner.drop 4) t ∧ ∀ (E : Ends) (H1 : Hp) (n0 n1 n2 cell : Int) (x3 x4 x5 x6 : Option V), 0 ≤ n0 → 0 ≤ n1 → n1 < 2147483647 → 0 ≤ n2 → H1 b = some (.lst [.int n0, .int n1, .int n2, .ref c]) → (∀ a, a ≠ b → H1 a = H a) →
      (∀ (y2 y3 : Option V) H', Sh H' → E.nx [some (.ref b), some (.int m), y2, y3, x4, x5, x6] H') → t E [some (.ref b), some (.int m), some (.int cell), x3, x4, x5, x6] H1 := by
    refine ⟨_, pss_cons (ps_set (i := 3) l_take_sc.nd rfl (Or.inl rfl) (pe_op op_add (pe_op op_mul (pe_ix ix_list (pv 0) pe_int (fun _ _ => rfl)) pe_int) (pe_op op_mod (pe_callTy call_int1 (by rfl) mint (by decide +kernel) (pa_cons (pv 2) pa_nil)) pe_int)))
      (pss_one (ps_asg (pe_op op_mod (pe_callTy call_int1 (by rfl) mint (by decide +kernel) (pa_cons (pe_op op_add (pv 3) (pe_op op_mul pe_int (pe_ix ix_list (pv 0) pe_int (fun _ _ => rfl)))) pa_nil)) pe_int) (pg_sub (pv 0) pe_int set_list))), fun E H1 n0 n1 n2 cell x3 x4 x5 x6 h0 h1 h2 h3 hb he hE => ?_⟩
    refine ⟨_, rfl, b, _, 1, _, rfl, rfl, .inl (.inl hb), at1, n1, 48271, rfl, rfl, .inr ⟨by decide, by decide⟩, _, rfl, .inl ⟨cell, rfl, _, _, rfl, rfl, (show (0 : Int) < 2147483647 by decide), _, _, rfl, rfl, ?_⟩⟩
    refine ⟨_, rfl, _, rfl, b, _, 2, _, rfl, rfl, .inl (.inl hb), at2, 7919, n2, rfl, rfl, .inl ⟨by decide, by decide⟩, _, _, rfl, rfl, .inl ⟨_, rfl, _, _, rfl, rfl, (show (0 : Int) < 2147483647 by decide), _, rfl, b, _, 1, 1, rfl, rfl, hb, rfl, ?_⟩⟩
    exact hE _ _ _ ⟨n0, _, n2, h0, Int.emod_nonneg _ (by decide), Int.emod_lt_of_pos _ (by decide), h3, upd_same, fun a n => by rw [upd_ne n]; exact he a n⟩
  have rest : ∃ t, PSs X (inner.drop 2) t ∧ ∀ (E : Ends) (cell : Int) (x3 x4 x5 x6 : Option V), 0 ≤ cell → (∀ (y2 y3 : Option V) H', Sh H' → E.nx [some (.ref b), some (.int m), y2, y3, x4, x5, x6] H') → t E [some (.ref b), some (.int m), some (.int cell), x3, x4, x5, x6] H := by
    obtain ⟨t4, p4, q4⟩ := last
    refine ⟨_, pss_cons (ps_augS (pv 0) pe_int get_list pe_int ip_add set_list)
      (pss_cons (ps_if (pt_cmpR op_ge (pv 2) pe_int (nomark _)) (pss_one (ps_asg (pv 2) (pg_sub (pv 0) pe_int set_list))) pss_nil) p4), fun E cell x3 x4 x5 x6 hcell hE => ?_⟩
    refine ⟨_, rfl, b, _, 2, _, rfl, rfl, hb, by decide, by decide, rfl, n2, 1, rfl, rfl, b, _, 2, 2, rfl, rfl, hb, rfl, ?_⟩
    refine ⟨_, rfl, cell, _, rfl, rfl, _, rfl, ite2 (fun _ => ?_) (fun _ => ?_)⟩
    · refine ⟨_, rfl, _, rfl, b, _, 0, 0, rfl, rfl, upd_same, rfl, ?_⟩
      exact q4 E _ cell n1 (n2 + 1) cell x3 x4 x5 x6 hcell h1 h2 (by omega) (by rw [upd_same]; rfl) (fun a n => by rw [upd_ne n, upd_ne n]) hE
    · exact q4 E _ n0 n1 (n2 + 1) cell x3 x4 x5 x6 h0 h1 h2 (by omega) (by rw [upd_same]; rfl) (fun a n => by rw [upd_ne n]) hE
  have refill : ∃ t, PS X ((defBody l_take_s).getD 0 (.Pass ⟨0, 0, 0, 0⟩)) t ∧ ∀ (E : Ends) (x2 x3 x4 x5 x6 : Option V), (∀ (y2 y3 : Option V) H', Sh H' → E.nx [some (.ref b), some (.int m), y2, y3, x4, x5, x6] H') → t E [some (.ref b), some (.int m), x2, x3, x4, x5, x6] H := by
    obtain ⟨t4, p4, q4⟩ := rest
    refine ⟨_, ps_if (pt_cmpR op_eq (pe_ix ix_list (pv 0) pe_int (fun _ _ => rfl)) pe_int (nomark _))
      (pss_cons (ps_set (i := 2) l_take_sc.nd rfl (Or.inl rfl) pe_int)
      (pss_cons (ps_if (pt_cmpR op_lt (pe_ix ix_list (pv 0) pe_int (fun _ _ => rfl)) (pe_callB call_len_seq (by rfl) mlen PySem.boot_len (pa_cons (pe_ix ix_list (pv 0) pe_int (fun _ _ => rfl)) pa_nil)) (nomark _))
        (pss_one (ps_set (i := 2) l_take_sc.nd rfl (Or.inl rfl) (pe_ix ix_list (pe_ix ix_list (pv 0) pe_int (fun _ _ => rfl)) (pe_ix ix_list (pv 0) pe_int (fun _ _ => rfl)) (fun _ _ => rfl)))) pss_nil) p4)) pss_nil, fun E x2 x3 x4 x5 x6 hE => ?_⟩
    refine ⟨_, rfl, b, _, 0, _, rfl, rfl, .inl (.inl hb), at0, rfl, _, rfl, ite2 (fun _ => ?_) (fun _ => ?_)⟩
    · refine ⟨_, rfl, b, _, 2, _, rfl, rfl, .inl (.inl hb), at2, _, rfl, b, _, 3, _, rfl, rfl, .inl (.inl hb), at3, c, _, rfl, .inl (.inl (.inl hc)), _, _, rfl, rfl, _, rfl, ite2 (fun q => ?_) (fun _ => ?_)⟩
      · have hlt : n2 < ((cs.map V.int).length : Int) := of_decide_eq_true q
        have hn : n2.toNat < cs.length := by rw [List.length_map] at hlt; omega
        have ga : atI (cs.map V.int) n2 = some (.int cs[n2.toNat]) := by
          have : atI (cs.map V.int) (n2.toNat : Int) = some (.int cs[n2.toNat]) := atI_nat (by simp [hn])
          rwa [show ((n2.toNat : Nat) : Int) = n2 by omega] at this
        refine ⟨_, rfl, b, _, 3, _, rfl, rfl, .inl (.inl hb), at3, _, rfl, b, _, 2, _, rfl, rfl, .inl (.inl hb), at2, c, _, n2, _, rfl, rfl, .inl (.inl hc), ga, ?_⟩
        exact q4 E cs[n2.toNat] x3 x4 x5 x6 (hcs _ (List.getElem_mem hn)) hE
      · exact q4 E 0 x3 x4 x5 x6 (by decide) hE
    · exact hE _ _ H ⟨n0, n1, n2, h0, h1, h2, h3, hb, fun a _ => rfl⟩
  obtain ⟨t1, p1, q1⟩ := refill
  refine ⟨_, pss_cons p1 (pss_cons (ps_if (pt_cmpR op_gt (pe_ix ix_list (pv 0) pe_int (fun _ _ => rfl)) pe_int (nomark _))
      (pss_cons (ps_set (i := 4) l_take_sc.nd rfl (Or.inl rfl) (pe_op op_mod (pe_callTy call_int1 (by rfl) mint (by decide +kernel) (pa_cons (pe_ix ix_list (pv 0) pe_int (fun _ _ => rfl)) pa_nil)) (pv 1)))
      (pss_cons (ps_asg (pe_op op_fdiv (pe_ix ix_list (pv 0) pe_int (fun _ _ => rfl)) (pv 1)) (pg_sub (pv 0) pe_int set_list))
      (pss_one (ps_ret (pv 4))))) pss_nil)
    (pss_cons (ps_set (i := 5) l_take_sc.nd rfl (Or.inl rfl) (pe_op op_mod (pe_callTy call_int1 (by rfl) mint (by decide +kernel) (pa_cons (pe_op op_mul (pe_op op_add (pe_ix ix_list (pv 0) pe_int (fun _ _ => rfl)) pe_int) pe_int) pa_nil)) pe_int))
    (pss_cons (ps_set (i := 6) l_take_sc.nd rfl (Or.inl rfl) (pe_op op_mod (pe_callTy call_int1 (by rfl) mint (by decide +kernel) (pa_cons (pe_op op_mul (pv 5) (pv 5)) pa_nil)) pe_int))
    (pss_one (ps_ret (pe_op op_mod (pe_callTy call_int1 (by rfl) mint (by decide +kernel) (pa_cons (pe_op op_fdiv (pe_op op_mod (pe_callTy call_int1 (by rfl) mint (by decide +kernel) (pa_cons (pe_op op_mul (pv 6) pe_int) pa_nil)) pe_int) pe_int) pa_nil)) (pv 1))))))), ?_⟩
  refine q1 _ none none none none none fun y2 y3 H' hS => ?_
  obtain ⟨m0, m1, m2, g0, g1, g2, g3, gb, ge⟩ := id hS
  have mpos : 0 < m := by omega
  refine ⟨_, rfl, b, _, 0, _, rfl, rfl, .inl (.inl gb), at0, m0, 0, rfl, rfl, _, rfl, ite2 (fun _ => ?_) (fun _ => ?_)⟩
  · refine ⟨_, rfl, b, _, 0, _, rfl, rfl, .inl (.inl gb), at0, .inl ⟨m0, rfl, _, rfl, _, _, rfl, rfl, mpos, ?_⟩⟩
    refine ⟨_, rfl, b, _, 0, _, rfl, rfl, .inl (.inl gb), at0, _, rfl, m0, m, rfl, rfl, ⟨mpos, by omega⟩, _, rfl, b, _, 0, 0, rfl, rfl, gb, rfl, ?_⟩
    refine ⟨_, rfl, fin _ _ ⟨m0 / m, m1, m2, Int.ediv_nonneg g0 (by omega), g1, g2, g3, upd_same, fun a n => by rw [upd_ne n]; exact ge a n⟩ (Int.emod_nonneg _ (by omega)) (Int.emod_lt_of_pos _ mpos)⟩
  · refine ⟨_, rfl, b, _, 1, _, rfl, rfl, .inl (.inl gb), at1, m1, 1, rfl, rfl, _, 39373, rfl, rfl, .inr ⟨by decide, by decide⟩, .inl ⟨_, rfl, _, 1000000007, rfl, rfl, (show (0 : Int) < 1000000007 by decide), ?_⟩⟩
    have b1 : 0 ≤ ((m1 + 1) * 39373) % 1000000007 := Int.emod_nonneg _ (by decide)
    have b2 : ((m1 + 1) * 39373) % 1000000007 < 1000000007 := Int.emod_lt_of_pos _ (by decide)
    refine ⟨_, rfl, _, rfl, _, _, rfl, rfl, .inl ⟨by omega, by omega⟩, .inl ⟨_, rfl, _, 998244353, rfl, rfl, (show (0 : Int) < 998244353 by decide), ?_⟩⟩
    refine ⟨_, rfl, _, 30011, rfl, rfl, .inr ⟨by decide, by decide⟩, .inl ⟨_, rfl, _, 998244353, rfl, rfl, (show (0 : Int) < 998244353 by decide), _, 7, rfl, rfl, ⟨by decide, by decide⟩, .inl ⟨_, rfl, _, rfl, _, _, rfl, rfl, mpos, ?_⟩⟩⟩
    exact fin _ _ hS (Int.emod_nonneg _ (by omega)) (Int.emod_lt_of_pos _ mpos)
end
end K17
namespace DW
open PySem PySem.Spec PyProof.Rows L2

/-! ### job lists, changed -/
def opn (rows : List (List Int)) (grp : List Int) : List Int := ((rows.zipIdx).filter fun p => p.1.any fun x => grp.contains x).map fun p => (p.2 : Int)
def out (n : Int) (r : List Int) : List Int := (rgI n).filter fun k => !r.contains k
def ins (n : Int) (r : List Int) (p : Int) : List Int := (rgI n).filter fun k => r.contains k || k == p
def del (r : List Int) (p : Int) : List Int := r.filter fun k => k != p
def spOthers (ds : List D) (Q : RQ) : Prop := ∃ (n : Int) (r : List Int), ds = [.int n, tI r] ∧ 0 ≤ n ∧ n ≤ 7 ∧ Q false (tI (out n r))
def spOpen (C : Addr) (ds : List D) (Q : RQ) : Prop := ∃ n rows grp, ds = [jO C n rows, tI grp] ∧ good n rows ∧ Q false (tI (opn rows grp))
def spOut (C : Addr) (ds : List D) (Q : RQ) : Prop := ∃ n rows, ∃ (at_ : Nat) (r : List Int), ds = [jO C n rows, .int (at_ : Int)] ∧ good n rows ∧ rows[at_]? = some r ∧ Q false (tI (out n r))
def spWith (C : Addr) (ds : List D) (Q : RQ) : Prop := ∃ n rows, ∃ (at_ : Nat) (r s : List Int), ds = [jO C n rows, .int (at_ : Int), tI s] ∧ good n rows ∧ rows[at_]? = some r ∧ Gp n s ∧ Q false (jO C n (rows.set at_ s))
def spPut (C : Addr) (ds : List D) (Q : RQ) : Prop := ∃ n rows, ∃ (at_ : Nat) (r : List Int) (p : Int), ds = [jO C n rows, .int (at_ : Int), .int p] ∧ good n rows ∧ rows[at_]? = some r ∧ 0 ≤ p ∧ p < n ∧ Q false (jO C n (rows.set at_ (ins n r p)))
def spStruck (C : Addr) (ds : List D) (Q : RQ) : Prop := ∃ n rows, ∃ (at_ : Nat) (r : List Int) (p : Int), ds = [jO C n rows, .int (at_ : Int), .int p] ∧ good n rows ∧ rows[at_]? = some r ∧ Q false (jO C n (rows.set at_ (del r p)))
def spPicked (C : Addr) (ds : List D) (Q : RQ) : Prop := ∃ n rows, ∃ (ix : List Nat), ds = [jO C n rows, tI (ix.map fun (i : Nat) => (i : Int))] ∧ good n rows ∧ ix.length ≤ 7 ∧ (∀ i ∈ ix, i < rows.length) ∧ Q false (jO C n (ix.map fun i => rows.getD i []))
/-! ### the law's own -/
def spOne (b : Addr) (ds : List D) (Q : RQ) : Prop := ∃ xs : List D, ds = [.rf b, .lst xs] ∧ xs ≠ [] ∧ xs.length ≤ 1000000 ∧ ∀ x ∈ xs, Q false x
def spAlike (ds : List D) (Q : RQ) : Prop := ∃ d : D, ds = [d, d] ∧ d.shw ∧ Q false (.bl true)
def spSome (b : Addr) (ds : List D) (Q : RQ) : Prop := ∃ xs : List Int, ds = [.rf b, lI xs] ∧ xs.length ≤ 1000 ∧ ∀ ys : List Int, ys.Sublist xs → Q true (lI ys)
def spJob (b : Addr) (ds : List D) (Q : RQ) : Prop := ∃ n : Int, ds = [.rf b, .int n] ∧ 0 ≤ n ∧ n ≤ 7 ∧ ∀ r, Gp n r → Q false (tI r)
def spJobs (b : Addr) (ds : List D) (Q : RQ) : Prop := ∃ n m : Int, ds = [.rf b, .int n, .int m] ∧ 0 ≤ n ∧ n ≤ 7 ∧ 0 ≤ m ∧ m ≤ 7 ∧ ∀ rows : List (List Int), (rows.length : Int) ≤ m → (∀ r ∈ rows, Gp n r) → Q true (lT rows)
def spRest (ds : List D) (Q : RQ) : Prop := ∃ (n : Int) (r : List Int), ds = [.int n, tI r] ∧ 0 ≤ n ∧ n ≤ 7 ∧ Q false (tI (out n r))
def spLOpen (ds : List D) (Q : RQ) : Prop := ∃ (n : Int) (rows : List (List Int)) (grp : List Int), (ds = [lT rows, tI grp] ∨ ds = [lT rows, lI grp] ∨ ds = [tT rows, tI grp] ∨ ds = [tT rows, lI grp]) ∧ good n rows ∧ Gp n grp ∧ Q false (tI (opn rows grp))
def spLWith (ds : List D) (Q : RQ) : Prop := ∃ (n : Int) (rows : List (List Int)) (at_ : Nat) (r s : List Int), (ds = [lT rows, .int (at_ : Int), tI s] ∨ ds = [tT rows, .int (at_ : Int), tI s]) ∧ good n rows ∧ rows[at_]? = some r ∧ Q false (tT (rows.set at_ s))
def spTold (C : Addr) (ds : List D) (Q : RQ) : Prop := ∃ n rows, ds = [jO C n rows] ∧ Q false (.tup [.int n, tT rows])

/-! ### how what is told of job lists is read -/
section
variable {C : Addr} {n : Int} {rows : List (List Int)} {Q : RQ}
theorem fld_size : Q false (.int n) → mFld "size" C (jO C n rows) Q := fun h => ⟨rfl, _, rfl, h⟩
theorem fld_jobs : Q false (tT rows) → mFld "jobs" C (jO C n rows) Q := fun h => ⟨rfl, _, rfl, h⟩
theorem fld_size_eq : mFld "size" C (jO C n rows) Q = Q false (.int n) := propext ⟨fun ⟨_, d, e, h⟩ => by cases e; exact h, fld_size⟩
theorem fld_jobs_eq : mFld "jobs" C (jO C n rows) Q = Q false (tT rows) := propext ⟨fun ⟨_, d, e, h⟩ => by
  have : d = tT rows := by
    have z : List.lookup ("jobs" : Str) [(("size" : Str), D.int n), (("jobs" : Str), tT rows)] = some (tT rows) := rfl
    exact Option.some.inj (e.symm.trans z)
  subst this; exact h, fld_jobs⟩
end
theorem atI_rows {rows : List (List Int)} {k : Nat} {r : List Int} (h : rows[k]? = some r) : atI (rows.map tI) (k : Int) = some (tI r) := atI_nat (by rw [List.getElem?_map, h]; rfl)
theorem atR {rows : List (List Int)} {k : Nat} {r : List Int} (h : rows[k]? = some r) : (rows.map tI)[k]? = some (tI r) := by rw [List.getElem?_map, h]; rfl
theorem ix_tT {rows : List (List Int)} {k : Nat} {r : List Int} {Q : RQ} (h : rows[k]? = some r) (q : Q false (tI r)) : mIx (tT rows) (.int (k : Int)) Q := ⟨_, atI_rows h, q⟩
theorem ix_lT {rows : List (List Int)} {k : Nat} {r : List Int} {Q : RQ} (h : rows[k]? = some r) (q : Q false (tI r)) : mIx (lT rows) (.int (k : Int)) Q := ⟨_, atI_rows h, q⟩
theorem in_tI {neg : Bool} {x : Int} {ys : List Int} {Q : RQ} (q : Q false (.bl (if neg then !ys.contains x else ys.contains x))) : mIn neg (.int x) (tI ys) Q := ⟨rfl, flat_ints ys, by rw [in_ints]; exact q⟩
theorem in_lI {neg : Bool} {x : Int} {ys : List Int} {Q : RQ} (q : Q false (.bl (if neg then !ys.contains x else ys.contains x))) : mIn neg (.int x) (lI ys) Q := ⟨rfl, flat_ints ys, by rw [in_ints]; exact q⟩
theorem enum_rows (rows : List (List Int)) : enumD (rows.map tI) = rows.zipIdx.map fun p => D.tup [.int (p.2 : Int), tI p.1] := by
  unfold enumD
  rw [List.zipIdx_map, List.map_map]; rfl
theorem zip_mem {α : Type} {xs : List α} {p : α × Nat} (h : p ∈ xs.zipIdx) : xs[p.2]? = some p.1 := List.mem_zipIdx_iff_getElem?.mp h
theorem zip_in {α : Type} {xs : List α} {p : α × Nat} (h : p ∈ xs.zipIdx) : p.1 ∈ xs := List.mem_of_getElem? (zip_mem h)
theorem good.row {n : Int} {rows : List (List Int)} (h : good n rows) {k : Nat} {r : List Int} (e : rows[k]? = some r) : Gp n r := h.gp r (List.mem_of_getElem? e)
theorem good.rlen {n : Int} {rows : List (List Int)} (h : good n rows) {k : Nat} {r : List Int} (e : rows[k]? = some r) : r.length ≤ 7 := gp_len (h.row e) h.n7
theorem good.set {n : Int} {rows : List (List Int)} (h : good n rows) {s : List Int} (hs : Gp n s) (k : Nat) : good n (rows.set k s) := ⟨h.n0, h.n7, by simpa using h.len, fun r hr => by
  rcases List.mem_or_eq_of_mem_set hr with z | rfl
  · exact h.gp r z
  · exact hs⟩
theorem rgOk {n : Int} (h0 : 0 ≤ n) (h7 : n ≤ 1000) : RgOk 0 n := RgOk.of_le (by omega) (by omega) (by omega) h0
theorem rg62_nat {n : Int} (h0 : 0 ≤ n) (h7 : n ≤ 1000) : rg62 n := ⟨by omega, by omega⟩
theorem cut_to (xs : List D) (k : Nat) : cutD xs none (some (k : Int)) = xs.take k := by
  unfold cutD
  rw [HT.sIx_none, HT.sIx_nat, List.drop_zero, Nat.sub_zero]
  by_cases h : k ≤ xs.length
  · rw [Nat.min_eq_left h]
  · rw [Nat.min_eq_right (by omega), List.take_of_length_le (by omega), List.take_of_length_le (by omega)]
theorem cut_from (xs : List D) (k : Nat) : cutD xs (some ((k : Int) + 1)) none = xs.drop (k + 1) := by
  unfold cutD
  rw [show ((k : Int) + 1) = ((k + 1 : Nat) : Int) by omega, HT.sIx_none, HT.sIx_nat]
  by_cases h : k + 1 ≤ xs.length
  · rw [Nat.min_eq_left h, List.take_of_length_le (by rw [List.length_drop]; omega)]
  · rw [Nat.min_eq_right (by omega), List.drop_of_length_le (by omega), List.drop_of_length_le (by omega), List.take_nil]
theorem set_cat {α : Type} {xs : List α} {k : Nat} {x s : α} (h : xs[k]? = some x) : xs.take k ++ [s] ++ xs.drop (k + 1) = xs.set k s := by
  rw [List.set_eq_take_append_cons_drop, if_pos (List.getElem?_eq_some_iff.mp h).1, List.append_assoc]; rfl
theorem ins_rise {n : Int} {r : List Int} {p : Int} (hr : Gp n r) (h0 : 0 ≤ p) (h1 : p < n) {ms : List Int} (hm : ms.Pairwise (· < ·)) (h : ∀ k, k ∈ ms ↔ k ∈ r ∨ k ∈ [p]) : ms = ins n r p := by
  refine rise_uniq hm ((rgI_lt n).sublist List.filter_sublist) fun k => ?_
  unfold ins
  rw [h k, List.mem_filter, mem_rgI]
  simp only [List.mem_singleton, Bool.or_eq_true, List.contains_eq_mem, decide_eq_true_eq, beq_iff_eq]
  constructor
  · rintro (z | rfl)
    · exact ⟨hr.2 k z, .inl z⟩
    · exact ⟨⟨h0, h1⟩, .inr rfl⟩
  · exact fun z => z.2
theorem gp_ins (n : Int) (r : List Int) (p : Int) : Gp n (ins n r p) := (gp_rg n).filter _
theorem gp_out (n : Int) (r : List Int) : Gp n (out n r) := (gp_rg n).filter _
theorem del_eq (r : List Int) (p : Int) : (r.filter fun x => !([p] : List Int).contains x) = del r p := by
  unfold del
  refine List.filter_congr fun x _ => ?_
  simp only [List.contains_cons, List.contains_nil, Bool.or_false]; rfl

/-! ### fit to be shown -/
structure Sh (W P : Nat) (d : D) : Prop where
  t : d.tiny = true
  w : d.wt ≤ W
  p : d.dep ≤ P
structure Shs (W P : Nat) (d : List D) : Prop where
  t : D.tinyAll d = true
  w : D.wtAll d ≤ W
  p : D.depAll d ≤ P
theorem Sh.shw {W P : Nat} {d : D} (h : Sh W P d) (hw : W ≤ 3000 := by decide) (hp : P ≤ 60 := by decide) : d.shw := ⟨h.t, Nat.le_trans h.w hw, Nat.le_trans h.p hp⟩
theorem sh_int {i : Int} (h : i.natAbs < 10 ^ 36) : Sh 1 0 (.int i) := ⟨decide_eq_true h, Nat.le_refl _, Nat.le_refl _⟩
theorem sh_bl {b : Bool} : Sh 0 0 (.bl b) := ⟨rfl, Nat.le_refl _, Nat.le_refl _⟩
theorem shs_nil : Shs 0 0 [] := ⟨rfl, Nat.le_refl _, Nat.le_refl _⟩
theorem shs_cons {W P W' P' : Nat} {d : D} {ds : List D} (h : Sh W P d) (r : Shs W' P' ds) : Shs (W + 1 + W') (max P P') (d :: ds) := ⟨by simp only [D.tinyAll, h.t, r.t, Bool.and_self], by
  have := h.w
  have := r.w
  show d.wt + 1 + D.wtAll ds ≤ _
  omega, by
  have := h.p
  have := r.p
  show max d.dep (D.depAll ds) ≤ _
  omega⟩
theorem sh_tup {W P : Nat} {ds : List D} (r : Shs W P ds) : Sh W (P + 1) (.tup ds) := ⟨r.t, r.w, Nat.succ_le_succ r.p⟩
theorem sh_lst {W P : Nat} {ds : List D} (r : Shs W P ds) : Sh W (P + 1) (.lst ds) := ⟨r.t, r.w, Nat.succ_le_succ r.p⟩
theorem shs_map {α : Type} {W P k : Nat} (f : α → D) : ∀ (xs : List α), (∀ x ∈ xs, Sh W P (f x)) → xs.length ≤ k → Shs (k * (W + 1)) P (xs.map f)
  | [], _, _ => ⟨rfl, Nat.zero_le _, Nat.zero_le _⟩
  | x :: xs, h, l => by
    have r := shs_map (k := xs.length) f xs (fun y hy => h y (List.mem_cons_of_mem _ hy)) (Nat.le_refl _)
    have c := shs_cons (h x List.mem_cons_self) r
    refine ⟨c.t, Nat.le_trans c.w ?_, Nat.le_trans c.p (by omega)⟩
    have : (xs.length + 1) * (W + 1) ≤ k * (W + 1) := Nat.mul_le_mul_right _ l
    rw [Nat.succ_mul] at this
    omega
theorem small_int {n x : Int} (h : 0 ≤ x ∧ x < n) (hn : n ≤ 1000) : Sh 1 0 (.int x) := sh_int (Nat.lt_of_lt_of_le (show x.natAbs < 1000 by omega) (by decide))
theorem shs_ints {n : Int} {r : List Int} (h : Gp n r) (h7 : n ≤ 7) : Shs 14 0 (r.map D.int) := shs_map (k := 7) D.int r (fun x hx => small_int (h.2 x hx) (by omega)) (gp_len h h7)
theorem sh_tI {n : Int} {r : List Int} (h : Gp n r) (h7 : n ≤ 7) : Sh 14 1 (tI r) := sh_tup (shs_ints h h7)
theorem sh_lI {n : Int} {r : List Int} (h : Gp n r) (h7 : n ≤ 7) : Sh 14 1 (lI r) := sh_lst (shs_ints h h7)
theorem sh_tT {n : Int} {rows : List (List Int)} (h : good n rows) : Sh 105 2 (tT rows) := sh_tup (shs_map (k := 7) tI rows (fun r hr => sh_tI (h.gp r hr) h.n7) h.len)
theorem sh_lT {n : Int} {rows : List (List Int)} (h : good n rows) : Sh 105 2 (lT rows) := sh_lst (shs_map (k := 7) tI rows (fun r hr => sh_tI (h.gp r hr) h.n7) h.len)
theorem ne_nil {ds : List D} {W P : Nat} {Q : RQ} (h : Shs W P ds) (hp : P ≤ 50) (q : Q false (.bl (!ds.isEmpty))) : mNeF (.lst ds) (.lst []) Q := by
  refine .inr ⟨⟨h.t, Nat.le_trans (Nat.succ_le_succ h.p) (by omega)⟩, ⟨rfl, by decide⟩, ?_⟩
  cases ds with
  | nil => exact q
  | cons x xs => simpa [D.py, D.pyAll, PyData.eqv, PyData.eqvAll] using q
theorem len_lT {rows : List (List Int)} {Q : RQ} (h : Q false (.int (rows.length : Int))) : mLen [lT rows] Q := by
  show Q false (.int ((rows.map tI).length : Int))
  rw [List.length_map]; exact h
theorem len_tT {rows : List (List Int)} {Q : RQ} (h : Q false (.int (rows.length : Int))) : mLen [tT rows] Q := by
  show Q false (.int ((rows.map tI).length : Int))
  rw [List.length_map]; exact h
theorem rgI_at {n : Nat} {i : Nat} {x : Int} (h : (rgI (n : Int))[i]? = some x) : x = (i : Int) ∧ i < n := by
  have hl := (List.getElem?_eq_some_iff.mp h).1
  rw [rgI_len, Int.toNat_natCast] at hl
  unfold rgI at h
  rw [List.getElem?_map, Int.toNat_natCast, List.getElem?_range hl] at h
  exact ⟨(Option.some.inj h).symm, hl⟩
theorem rg0 (n : Int) : (List.range n.toNat).map (fun (i : Nat) => D.int (0 + (i : Int))) = (rgI n).map D.int := by
  unfold rgI
  rw [List.map_map]
  refine List.map_congr_left fun i _ => ?_
  show D.int (0 + (i : Int)) = D.int (i : Int)
  rw [Int.zero_add]
theorem take_one {α : Type} {xs : List α} {i : Nat} {x : α} (h : xs[i]? = some x) : xs.take (i + 1) = xs.take i ++ [x] := by
  rw [List.take_add_one, h]; rfl
def opnK (rows : List (List Int)) (grp : List Int) (k : Nat) : List Int := (((rows.zipIdx).take k).filter fun p => p.1.any fun x => grp.contains x).map fun p => (p.2 : Int)
theorem opnK_all (rows : List (List Int)) (grp : List Int) : opnK rows grp rows.length = opn rows grp := by
  unfold opnK opn
  rw [List.take_of_length_le (by simp)]
theorem opnK_step {rows : List (List Int)} {grp r : List Int} {k : Nat} (h : rows[k]? = some r) : opnK rows grp (k + 1) = if (r.any fun x => grp.contains x) = true then opnK rows grp k ++ [(k : Int)] else opnK rows grp k := by
  unfold opnK
  have e : (rows.zipIdx)[k]? = some (r, k) := by rw [List.getElem?_zipIdx, h]; simp
  rw [take_one e, List.filter_append, List.map_append]
  cases q : (r.any fun x => grp.contains x) with
  | true => rw [List.filter_cons_of_pos (by simpa using q)]; rfl
  | false => rw [List.filter_cons_of_neg (by simpa using q)]; simp
theorem both_any (r grp : List Int) : (!((grp.filter fun x => r.contains x).map D.int).isEmpty) = (r.any fun x => grp.contains x) := by
  rw [Bool.eq_iff_iff]
  simp only [Bool.not_eq_true', List.isEmpty_eq_false_iff, ne_eq, List.map_eq_nil_iff, List.any_eq_true, List.contains_eq_mem, decide_eq_true_eq]
  constructor
  · intro h
    obtain ⟨x, hx⟩ := List.exists_mem_of_ne_nil _ h
    rw [List.mem_filter] at hx
    exact ⟨x, by simpa using hx.2, hx.1⟩
  · rintro ⟨x, h1, h2⟩ e
    have : x ∈ grp.filter fun x => decide (x ∈ r) := List.mem_filter.mpr ⟨h2, by simpa using h1⟩
    rw [e] at this; cases this
theorem opnK_len (rows : List (List Int)) (grp : List Int) (k : Nat) : (opnK rows grp k).length ≤ rows.length := by
  unfold opnK
  rw [List.length_map]
  refine Nat.le_trans (List.length_filter_le _ _) ?_
  rw [List.length_take, List.length_zipIdx]
  omega

def spEqJ (C : Addr) (ds : List D) (Q : RQ) : Prop := ∃ (n m : Int) (r s : List (List Int)), ds = [jO C n r, jO C m s] ∧ good n r ∧ good m s ∧ Q false (.bl (decide (n = m ∧ r = s)))
def absI (ns : List Int) : List Int := (ns.take 63).map fun i => if i < 0 then -i else i
def spBag (a : Addr) (ns : List Int) (ds : List D) (Q : RQ) : Prop := ds = [.rf a] ∧ Q true (.lst [.int 0, .int 987654321, .int 0, lI (absI ns)])

theorem absI_pos (ns : List Int) : ∀ n ∈ absI ns, 0 ≤ n := fun n hn => by
  obtain ⟨i, _, rfl⟩ := List.mem_map.mp hn
  show 0 ≤ if i < 0 then -i else i
  split <;> omega
theorem absI_len (ns : List Int) : (absI ns).length ≤ 63 := by
  unfold absI
  rw [List.length_map, List.length_take]; omega
theorem good.shT {n : Int} {rows : List (List Int)} (h : good n rows) : (tT rows).shw := (sh_tT h).shw
theorem eq_rows {n m : Int} {r s : List (List Int)} {Q : RQ} (h1 : good n r) (h2 : good m s) (q : Q false (.bl (decide (r = s)))) : mEqF (tT r) (tT s) Q := eq_data h1.shT h2.shT (by
  rw [show PyData.eqv (tT r).py (tT s).py = PyData.eqvAll (D.pyAll (r.map tI)) (D.pyAll (s.map tI)) by simp only [tT, D.py, PyData.eqv], eqv_rows]; exact q)

def plus (k : Int) (rows : List (List Int)) : List (List Int) := rows.map fun r => r.map fun x => x + k
def rept (k : Int) (rows : List (List Int)) : List (List Int) := (List.replicate k.toNat rows).flatten
def spShifted (ds : List D) (Q : RQ) : Prop := ∃ (r : List Int) (k : Int), ds = [tI r, .int k] ∧ r.length ≤ 7 ∧ Q false (tI (r.map fun x => x + k))
def spAdd (C CU CT : Addr) (ds : List D) (Q : RQ) (Xd : XQ) : Prop := ∃ n rows m os, ds = [jO C n rows, jO C m os] ∧ good n rows ∧ good m os ∧
  ((n ≠ m ∧ Xd CU []) ∨ (n = m ∧ 7 < rows.length + os.length ∧ Xd CT [(("limit" : Str), .int 7)]) ∨ (n = m ∧ rows.length + os.length ≤ 7 ∧ Q false (jO C n (rows ++ os))))
def spOr (C CT : Addr) (ds : List D) (Q : RQ) (Xd : XQ) : Prop := ∃ n rows m os, ds = [jO C n rows, jO C m os] ∧ good n rows ∧ good m os ∧
  (((7 < n + m ∨ 7 < rows.length + os.length) ∧ Xd CT [(("limit" : Str), .int 7)]) ∨ (n + m ≤ 7 ∧ rows.length + os.length ≤ 7 ∧ Q false (jO C (n + m) (rows ++ plus n os))))
def spMul (C CT : Addr) (ds : List D) (Q : RQ) (Xd : XQ) : Prop := ∃ n rows k, ds = [jO C n rows, .int k] ∧ good n rows ∧ 0 ≤ k ∧ k ≤ 1000 ∧
  ((7 < (rows.length : Int) * k ∧ Xd CT [(("limit" : Str), .int 7)]) ∨ ((rows.length : Int) * k ≤ 7 ∧ Q false (jO C n (rept k rows))))

theorem mulB_l {a : List D} {k : Int} {Q : RQ} (h0 : 0 ≤ k) (h1 : k ≤ 1000) (h2 : a.length ≤ 1000) (h : Q true (.lst (List.replicate k.toNat a).flatten)) : mMulB (.lst a) (.int k) Q :=
  ⟨by omega, by omega, le_line (Nat.le_trans (Nat.mul_le_mul h2 (by omega : k.toNat ≤ 1000)) (by decide)), h⟩
theorem tup_lL {ds : List D} {Q : RQ} (h : Q false (.tup ds)) : mTuple [.lst ds] Q := h
theorem min2_ii {a b : Int} {Q : RQ} (h : Q false (.int (min a b))) : mMin2 [.int a, .int b] Q := by
  show Q false (.int (if b < a then b else a))
  rw [show (if b < a then b else a) = min a b by split <;> omega]
  exact h
theorem add_ii {a b : Int} {Q : RQ} (h : Q false (.int (a + b))) : mAdd (.int a) (.int b) Q := h
theorem add_ll {a b : List D} {Q : RQ} (h1 : a.length + b.length ≤ sizeLine) (h : Q true (.lst (a ++ b))) : mAdd (.lst a) (.lst b) Q := ⟨h1, h⟩
theorem list_tTl {rows : List (List Int)} {Q : RQ} (h : Q true (.lst (rows.map tI))) : mList [tT rows] Q := h
theorem gp_plus {n m : Int} (h0 : 0 ≤ n) {r : List Int} (h : Gp m r) : Gp (n + m) (r.map fun x => x + n) := by
  refine ⟨List.pairwise_map.mpr (h.1.imp fun hab => by omega), fun x hx => ?_⟩
  obtain ⟨y, hy, rfl⟩ := List.mem_map.mp hx
  have := h.2 y hy
  omega
theorem gp_wide {n m : Int} (h : n ≤ m) {r : List Int} (g : Gp n r) : Gp m r := ⟨g.1, fun x hx => ⟨(g.2 x hx).1, by have := (g.2 x hx).2; omega⟩⟩
theorem good_app {n : Int} {rows os : List (List Int)} (h : good n rows) (h' : good n os) (hl : rows.length + os.length ≤ 7) : good n (rows ++ os) := ⟨h.n0, h.n7, by simpa using hl, fun r hr => by
  rcases List.mem_append.mp hr with z | z
  · exact h.gp r z
  · exact h'.gp r z⟩
theorem good_bes {n m : Int} {rows os : List (List Int)} (h : good n rows) (h' : good m os) (hs : n + m ≤ 7) (hl : rows.length + os.length ≤ 7) : good (n + m) (rows ++ plus n os) := by
  have := h.n0
  have := h'.n0
  refine ⟨by omega, hs, by unfold plus; simpa using hl, fun r hr => ?_⟩
  rcases List.mem_append.mp hr with z | z
  · exact gp_wide (by omega) (h.gp r z)
  · obtain ⟨y, hy, rfl⟩ := List.mem_map.mp z
    exact gp_plus h.n0 (h'.gp y hy)
theorem rept_len (k : Int) (rows : List (List Int)) : (rept k rows).length = k.toNat * rows.length := by unfold rept; simp
theorem rept_mem {k : Int} {rows : List (List Int)} {r : List Int} (h : r ∈ rept k rows) : r ∈ rows := by
  unfold rept at h
  obtain ⟨l, h1, h2⟩ := List.mem_flatten.mp h
  rw [(List.mem_replicate.mp h1).2] at h2
  exact h2
theorem rept_le {k : Int} (h0 : 0 ≤ k) {rows : List (List Int)} (h : (rows.length : Int) * k ≤ 7) : (rept k rows).length ≤ 7 := by
  rw [rept_len]
  have e : ((k.toNat * rows.length : Nat) : Int) = (rows.length : Int) * k := by rw [Int.natCast_mul, Int.toNat_of_nonneg h0, Int.mul_comm]
  omega
theorem good_rept {n k : Int} {rows : List (List Int)} (h : good n rows) (h0 : 0 ≤ k) (hl : (rows.length : Int) * k ≤ 7) : good n (rept k rows) :=
  ⟨h.n0, h.n7, rept_le h0 hl, fun r hr => h.gp r (rept_mem hr)⟩
theorem rept_nil (k : Int) : rept k [] = [] := by unfold rept; simp
theorem rept_min {k : Int} (h0 : 0 ≤ k) {rows : List (List Int)} (h : (rows.length : Int) * k ≤ 7) : rept (min k 7) rows = rept k rows := by
  cases rows with
  | nil => rw [rept_nil, rept_nil]
  | cons r rs =>
    have : k ≤ 7 := by
      have e : ((r :: rs).length : Int) * k = k + (rs.length : Int) * k := by rw [List.length_cons]; rw [Int.natCast_add, Int.add_mul]; omega
      have := Int.mul_nonneg (Int.natCast_nonneg rs.length) h0
      omega
    rw [show min k 7 = k by omega]
theorem rept_tI (k : Int) (rows : List (List Int)) : (List.replicate k.toNat (rows.map tI)).flatten = (rept k rows).map tI := by
  unfold rept
  rw [List.map_flatten, List.map_replicate]
end DW
namespace K17
open PySem PySem.Spec PyProof.Rows L2 DW
local macro_rules | `(tactic| walk_at "dw") => `(tactic| simp only [rdS_0, rdS_s, rdO_0, rdO_1, rdO_s, startS, endD, mAdd_i, mAdd_b, mAdd_l, mAdd_t, mI_i, mIC_i, mB_i, mLen_l, mLen_t, mList_l, mList_t, mTuple_l, mTuple_t, mInt1_i, mInt1_b, mAbs_i, mIx_l, mIx_t, mSl_l, mSl_t, mSeq_l, mSeq_t, mEnum_l, mEnum_t, mFld_o, mExt_l, mRev_l, mRepr_1, put_f, put_t, frz_0, frz_1, frz_2, frz_s, wpS_0, wpS_1, DW.putAll,
  List.map_cons, List.map_nil, List.cons_append, List.nil_append, List.length_cons, List.length_nil, List.replicate_succ, List.replicate_zero, List.set_cons_zero, List.set_cons_succ, List.set_nil, Nat.reduceAdd, Nat.reduceSub, Nat.zero_add, Bool.not_true, Bool.not_false, if_true, if_false, Bool.false_eq_true, and_true, true_and, decide_eq_true_eq, eq_self, Bool.and_eq_true, Bool.or_eq_true, Bool.not_eq_true, D.bl.injEq, D.int.injEq, D.lst.injEq, D.tup.injEq, exists_eq_left', exists_eq_left, exists_eq_right])
section
variable {g : Gd} {P : Program} {w : World} {K : PySem.W.Frag} {mg : Str → Option Value} {base : Heap} {CJ b c sa : Addr} {cs ns : List Int} {tr : Prop}
abbrev l_one_s : Stmt := topS 30
theorem l_one_sc : FnScope ["_law_bag_here", "_law_things"] ["_law_bag_here", "_law_things"] (defScope l_one_s) := ⟨rfl, rfl, rfl, by decide +kernel, rfl, by decide +kernel, by decide +kernel⟩
theorem l_one_ok {l_one_f : Addr} {l_one_fd : FuncData} (T : Bltn mg) (l_one_D : Dfn K mg "_law_one" "_law_one" l_one_s ["_law_bag_here", "_law_things"] l_one_f l_one_fd)
    {l_take_f : Addr} {l_take_fd : FuncData} (l_take_D : Dfn K mg "_law_take" "_law_take" l_take_s ["_law_bag_here", "_law_many"] l_take_f l_take_fd) (l_take_G : FnOk P w K mg base CX0 1 l_take_f l_take_fd ["_law_bag_here", "_law_many"] (spOf (Bg b c cs) 2 (spTake b))) : FnOk P w K mg base CX0 2 l_one_f l_one_fd ["_law_bag_here", "_law_things"] (spOf (Bg b c cs) 2 (spOne b)) := by
  refine def_ok l_one_D.F l_one_sc rfl (fun cdv A fr s H E hr =>
    (wss_one (ws_ret (we_ix ix_seq s2_ix (wr_v 1 (pv 1)) (we_call (wa_cons (we_v 0 (pv 0)) (wa_cons (we_cb (war_cons (wr_v 1 (pv 1)) war_nil) sc_len (fun t h => pe_callB call_len_seq (by rfl) T.len (by decide +kernel) h)) wa_nil)) (fun t h => pe_call l_take_G (hr.mono (by decide)) (by rfl) l_take_D.m l_take_D.F.kp l_take_D.b .nil pass0 h)).rd)))) ?_
  rintro ds Q hl ⟨xs, rfl, hne, hl2, hq⟩
  walk_at "dw"
  have hp : 0 < xs.length := List.length_pos_iff.mpr hne
  refine ⟨_, rfl, by omega, by omega, fun k h0 h1 => ?_⟩
  have hk : k.toNat < xs.length := by omega
  refine ⟨xs[k.toNat], ?_, hq _ (List.getElem_mem hk)⟩
  have : atI xs (k.toNat : Int) = some xs[k.toNat] := atI_nat (by simp [hk])
  rwa [show ((k.toNat : Nat) : Int) = k by omega] at this

abbrev l_alike_s : Stmt := topS 31
theorem l_alike_sc : FnScope ["_law_found", "_law_due"] ["_law_found", "_law_due"] (defScope l_alike_s) := ⟨rfl, rfl, rfl, by decide +kernel, rfl, by decide +kernel, by decide +kernel⟩
theorem l_alike_ok {l_alike_f : Addr} {l_alike_fd : FuncData} (T : Bltn mg) (l_alike_D : Dfn K mg "_law_alike" "_law_alike" l_alike_s ["_law_found", "_law_due"] l_alike_f l_alike_fd) : FnG P w K mg base CX0 1 l_alike_f l_alike_fd ["_law_found", "_law_due"] (spOf g 2 spAlike) := by
  refine def_okG l_alike_D.F l_alike_sc rfl (fun cdv A fr s H E gd hr =>
    (wss_one (ws_ret (we_and (we_cmp (op_eqF hr.units) s2_eqF (wr_v 0 (pv 0)) (wr_v 1 (pv 1)) (nomark _)) (we_one (we_cmp (op_eqF hr.units) s2_eqF (we_cb (war_cons (wr_v 0 (pv 0)) war_nil) sc_repr (fun t h => pe_callB (cr_repr gd hr.units) (by rfl) T.repr (by decide +kernel) h)).rd (we_cb (war_cons (wr_v 1 (pv 1)) war_nil) sc_repr (fun t h => pe_callB (cr_repr gd hr.units) (by rfl) T.repr (by decide +kernel) h)).rd (nomark _))))))) ?_
  rintro ds Q hl ⟨d, rfl, hs, hq⟩
  walk_at "dw"
  refine eq_me hs ⟨_, rfl, ?_⟩
  rw [if_pos rfl]
  exact ⟨hs, hs, eq_str (by rw [decide_eq_true rfl]; exact hq)⟩

abbrev l_some_s : Stmt := topS 32
theorem l_some_sc : FnScope ["_law_bag_here", "_law_things", "_law_one_here"] ["_law_bag_here", "_law_things"] (defScope l_some_s) := ⟨rfl, rfl, rfl, by decide +kernel, rfl, by decide +kernel, by decide +kernel⟩
theorem l_some_ok {l_some_f : Addr} {l_some_fd : FuncData} (T : Bltn mg) (l_some_D : Dfn K mg "_law_some" "_law_some" l_some_s ["_law_bag_here", "_law_things"] l_some_f l_some_fd)
    {l_take_f : Addr} {l_take_fd : FuncData} (l_take_D : Dfn K mg "_law_take" "_law_take" l_take_s ["_law_bag_here", "_law_many"] l_take_f l_take_fd) (l_take_G : FnOk P w K mg base CX0 1 l_take_f l_take_fd ["_law_bag_here", "_law_many"] (spOf (Bg b c cs) 2 (spTake b))) : FnOk P w K mg base CX0 2 l_some_f l_some_fd ["_law_bag_here", "_law_things"] (spOf (Bg b c cs) 2 (spSome b)) := by
  refine def_ok l_some_D.F l_some_sc rfl (fun cdv A fr s H E hr =>
    (wss_one (ws_ret (we_lc (own := [("_law_one_here", 2)]) rfl l_some_sc.nd (wi_seq (we_v 1 (pv 1))) (blkOk_by (N := ["_law_bag_here", "_law_things", "_law_one_here"]) (sc := defScope l_some_s) (own := [("_law_one_here", 2)]) (by decide +kernel)) (fun _ => (wg_name 2 (pg_name l_some_sc.nd rfl (by first | exact Or.inl rfl | exact Or.inr rfl)))) (fun _ => (wts_one (wt_cmp (op_eqF hr.units) s2_eqF (we_call (wa_cons (we_v 0 (pv 0)) (wa_cons we_int wa_nil)) (fun t h => pe_call l_take_G (hr.mono (by decide)) (by rfl) l_take_D.m l_take_D.F.kp l_take_D.b .nil pass0 h)).rd (we_int).rd (nomark _)))) (fun _ => (we_v 2 (pv 2))))))) ?_
  rintro ds Q hl ⟨xs, rfl, hl2, hq⟩
  walk_at "dw"
  show (xs.map D.int).length < sizeLine ∧ wLc _ _ _ _ (xs.map D.int) _
  refine ⟨small_line (by simp; omega), wLc_some D.int D.int xs _ (fun x hx R1 R0 h1 h0 => ?_) fun ys hy => hq ys hy⟩
  walk_at "dw"
  refine ⟨2, rfl, by decide, by decide, fun k _ _ => eq_int ⟨_, rfl, ?_⟩⟩
  cases decide (k = 1)
  · exact h0
  · exact h1

abbrev l_job_s : Stmt := topS 33
theorem l_job_sc : FnScope ["_law_bag_here", "_law_size", "_law_way", "_law_job_here"] ["_law_bag_here", "_law_size"] (defScope l_job_s) := ⟨rfl, rfl, rfl, by decide +kernel, rfl, by decide +kernel, by decide +kernel⟩
theorem l_job_ok {l_job_f : Addr} {l_job_fd : FuncData} (T : Bltn mg) (l_job_D : Dfn K mg "_law_job" "_law_job" l_job_s ["_law_bag_here", "_law_size"] l_job_f l_job_fd)
    {l_some_f : Addr} {l_some_fd : FuncData} (l_some_D : Dfn K mg "_law_some" "_law_some" l_some_s ["_law_bag_here", "_law_things"] l_some_f l_some_fd) (l_some_G : FnOk P w K mg base CX0 2 l_some_f l_some_fd ["_law_bag_here", "_law_things"] (spOf (Bg b c cs) 2 (spSome b)))
    {l_take_f : Addr} {l_take_fd : FuncData} (l_take_D : Dfn K mg "_law_take" "_law_take" l_take_s ["_law_bag_here", "_law_many"] l_take_f l_take_fd) (l_take_G : FnOk P w K mg base CX0 1 l_take_f l_take_fd ["_law_bag_here", "_law_many"] (spOf (Bg b c cs) 2 (spTake b))) : FnOk P w K mg base CX0 3 l_job_f l_job_fd ["_law_bag_here", "_law_size"] (spOf (Bg b c cs) 2 (spJob b)) := by
  refine def_ok l_job_D.F l_job_sc rfl (fun cdv A fr s H E hr =>
    (wss_cons (ws_set 2 (we_call (wa_cons (we_v 0 (pv 0)) (wa_cons we_int wa_nil)) (fun t h => pe_call l_take_G (hr.mono (by decide)) (by rfl) l_take_D.m l_take_D.F.kp l_take_D.b .nil pass0 h)) (fun te h => ps_set (i := 2) l_job_sc.nd rfl (by first | exact Or.inl rfl | exact Or.inr rfl) h))
    (wss_cons (ws_if (wt_cmp (op_eqF hr.units) s2_eqF (wr_v 2 (pv 2)) (we_int).rd (nomark _)) (wss_one (ws_ret (we_tupRg1 (we_v 1 (pv 1)) rfl (by rfl) T.tuple (by rfl) T.range))) wss_nil)
    (wss_cons (ws_set 3 (we_call (wa_cons (we_v 0 (pv 0)) (wa_cons (we_listRg1 (we_v 1 (pv 1)) rfl (by rfl) T.list (by rfl) T.range) wa_nil)) (fun t h => pe_call l_some_G (hr.mono (by decide)) (by rfl) l_some_D.m l_some_D.F.kp l_some_D.b .nil pass0 h)) (fun te h => ps_set (i := 3) l_job_sc.nd rfl (by first | exact Or.inl rfl | exact Or.inr rfl) h))
    (wss_cons (ws_if (wt_cmp op_lt s2_B (wr_v 2 (pv 2)) (we_int).rd (nomark _)) (wss_one (ws_set 3 (we_call (wa_cons (we_v 0 (pv 0)) (wa_cons (we_v 3 (pv 3)) wa_nil)) (fun t h => pe_call l_some_G (hr.mono (by decide)) (by rfl) l_some_D.m l_some_D.F.kp l_some_D.b .nil pass0 h)) (fun te h => ps_set (i := 3) l_job_sc.nd rfl (by first | exact Or.inl rfl | exact Or.inr rfl) h))) wss_nil)
    (wss_one (ws_ret (we_cb (war_cons (wr_v 3 (pv 3)) war_nil) sc_tuple (fun t h => pe_callTy call_tuple_of (by rfl) T.tuple (by decide +kernel) h))))))))) ?_
  rintro ds Q hl ⟨n, rfl, h0, h7, hq⟩
  walk_at "dw"
  have hl7 : (rgI n).length ≤ 1000 := by rw [rgI_len]; omega
  refine ⟨6, rfl, by decide, by decide, fun k k0 k1 => eq_int ⟨_, rfl, ?_⟩⟩
  rw [rgD_rgI]
  split
  · exact ⟨rgOk h0 (by omega), hq _ (gp_rg n)⟩
  · refine ⟨rgOk h0 (by omega), rgI n, rfl, hl7, fun ys hy => ?_⟩
    refine ⟨_, rfl, ?_⟩
    split
    · exact ⟨ys, rfl, Nat.le_trans hy.length_le hl7, fun zs hz => hq zs ((gp_rg n).sub (hz.trans hy))⟩
    · exact hq ys ((gp_rg n).sub hy)

abbrev l_jobs_s : Stmt := topS 34
theorem l_jobs_sc : FnScope ["_law_bag_here", "_law_size", "_law_most", "_law_jobs_here", "_law_k"] ["_law_bag_here", "_law_size", "_law_most"] (defScope l_jobs_s) := ⟨rfl, rfl, rfl, by decide +kernel, rfl, by decide +kernel, by decide +kernel⟩
theorem l_jobs_ok {l_jobs_f : Addr} {l_jobs_fd : FuncData} (T : Bltn mg) (l_jobs_D : Dfn K mg "_law_jobs" "_law_jobs" l_jobs_s ["_law_bag_here", "_law_size", "_law_most"] l_jobs_f l_jobs_fd)
    {l_job_f : Addr} {l_job_fd : FuncData} (l_job_D : Dfn K mg "_law_job" "_law_job" l_job_s ["_law_bag_here", "_law_size"] l_job_f l_job_fd) (l_job_G : FnOk P w K mg base CX0 3 l_job_f l_job_fd ["_law_bag_here", "_law_size"] (spOf (Bg b c cs) 2 (spJob b)))
    {l_one_f : Addr} {l_one_fd : FuncData} (l_one_D : Dfn K mg "_law_one" "_law_one" l_one_s ["_law_bag_here", "_law_things"] l_one_f l_one_fd) (l_one_G : FnOk P w K mg base CX0 2 l_one_f l_one_fd ["_law_bag_here", "_law_things"] (spOf (Bg b c cs) 2 (spOne b)))
    {l_take_f : Addr} {l_take_fd : FuncData} (l_take_D : Dfn K mg "_law_take" "_law_take" l_take_s ["_law_bag_here", "_law_many"] l_take_f l_take_fd) (l_take_G : FnOk P w K mg base CX0 1 l_take_f l_take_fd ["_law_bag_here", "_law_many"] (spOf (Bg b c cs) 2 (spTake b))) : FnOk P w K mg base CX0 4 l_jobs_f l_jobs_fd ["_law_bag_here", "_law_size", "_law_most"] (spOf (Bg b c cs) 3 (spJobs b)) := by
  refine def_ok l_jobs_D.F l_jobs_sc rfl (fun cdv A fr s H E hr =>
    (wss_cons (ws_own 3 (we_lst wa_nil) (fun te h => ps_set (i := 3) l_jobs_sc.nd rfl (by first | exact Or.inl rfl | exact Or.inr rfl) h))
    (wss_cons (ws_for rfl (wi_rg1 (we_call (wa_cons (we_v 0 (pv 0)) (wa_cons (we_bin op_addA s2_add (wr_v 2 (pv 2)) (we_int).rd) wa_nil)) (fun t h => pe_call l_take_G (hr.mono (by decide)) (by rfl) l_take_D.m l_take_D.F.kp l_take_D.b .nil pass0 h)) (by rfl) T.range) (wg_name 4 (pg_name l_jobs_sc.nd rfl (by first | exact Or.inl rfl | exact Or.inr rfl)))
    (wss_one (ws_if (ww_t (ww_and (wt_cmp (op_neF hr.units) s2_neF (wr_v 3 (pv 3)) (we_lst wa_nil).rd (nomark _)) (ww_and1 (wt_cmp (op_eqF hr.units) s2_eqF (we_call (wa_cons (we_v 0 (pv 0)) (wa_cons we_int wa_nil)) (fun t h => pe_call l_take_G (hr.mono (by decide)) (by rfl) l_take_D.m l_take_D.F.kp l_take_D.b .nil pass0 h)).rd (we_int).rd (nomark _))))) (wss_one (ws_appendE 3 (we_lend (war_cons (wr_v 0 (pv 0)) (war_cons (wr_v 3 (pv 3)) war_nil)) (fun t h => pe_call l_one_G (hr.mono (by decide)) (by rfl) l_one_D.m l_one_D.F.kp l_one_D.b .nil pass0 h)) (fun te h => ps_expr (pe_bm PySem.F.plainAttrs_list PySem.F.slot_list_append PySem.F.type_list_append mt_append (pv 3) (pa_cons h pa_nil))))) (wss_one (ws_appendE 3 (we_call (wa_cons (we_v 0 (pv 0)) (wa_cons (we_v 1 (pv 1)) wa_nil)) (fun t h => pe_call l_job_G (hr.mono (by decide)) (by rfl) l_job_D.m l_job_D.F.kp l_job_D.b .nil pass0 h)) (fun te h => ps_expr (pe_bm PySem.F.plainAttrs_list PySem.F.slot_list_append PySem.F.type_list_append mt_append (pv 3) (pa_cons h pa_nil))))))))
    (wss_one (ws_retO 3 (pv 3)))))) ?_
  rintro ds Q hl ⟨n, m, rfl, h0, h7, m0, m7, hq⟩
  walk_at "dw"
  refine ⟨Nat.zero_le _, m + 1, rfl, by omega, by omega, fun k k0 k1 => ⟨k, rfl, rg62_nat k0 (by omega), ?_⟩⟩
  refine wFor_inv (fun i st => ∃ s4, ∃ rows : List (List Int), st = [.val (.rf b), .val (.int n), .val (.int m), .own (rows.map tI), s4] ∧ rows.length = i ∧ ∀ r ∈ rows, Gp n r) (fun _ _ _ => trivial) _ 0 _ ⟨.un, [], rfl, rfl, fun r h => nomatch h⟩ ?_ ?_
  · rintro i d hi st ⟨s4, rows, rfl, hlen, hgp⟩ K hK
    have hi7 : i < k.toNat := by
      have := (List.getElem?_eq_some_iff.mp hi).1
      simpa using this
    have hl8 : rows.length ≤ 7 := by omega
    have hadd : ∀ r, Gp n r → K [.val (.rf b), .val (.int n), .val (.int m), .own (rows.map tI ++ [tI r]), .val d] := fun r hr => hK _ ⟨_, rows ++ [r], by rw [List.map_append]; rfl, by rw [List.length_append, hlen]; simp, fun s hs => by
      rcases List.mem_append.mp hs with z | z
      · exact hgp s z
      · rw [List.mem_singleton.mp z]; exact hr⟩
    have hsz : (rows.map tI).length < sizeLine := small_line (by simp; omega)
    have new : spJob b [.rf b, .int n] fun _ d1 => (rows.map tI).length < sizeLine ∧ K [.val (.rf b), .val (.int n), .val (.int m), .own (rows.map tI ++ [d1]), .val d] := ⟨n, rfl, h0, h7, fun r hr => ⟨hsz, hadd r hr⟩⟩
    walk_at "dw"
    refine ⟨Nat.zero_le _, ne_nil (shs_map (k := 7) tI rows (fun r hr => sh_tI (hgp r hr) h7) hl8) (by decide) ⟨_, rfl, ?_⟩⟩
    split
    · rename_i hne
      refine ⟨5, rfl, by decide, by decide, fun q q0 q1 => eq_int ⟨_, rfl, ?_⟩⟩
      split
      · refine ⟨_, rfl, rows.map tI, rfl, (by rintro e; rw [e] at hne; exact nomatch hne), (by simp; omega), fun x hx => ?_⟩
        obtain ⟨r, hr, rfl⟩ := List.mem_map.mp hx
        exact ⟨imm_ints r, hsz, hadd r (hgp r hr)⟩
      · exact ⟨_, rfl, new⟩
    · exact ⟨_, rfl, new⟩
  · rintro st ⟨s4, rows, rfl, hlen, hgp⟩
    refine ⟨_, rfl, hq rows ?_ hgp⟩
    rw [hlen]
    simp; omega

abbrev l_bag_s : Stmt := topS 28
theorem l_bag_sc : FnScope ["_law_script", "_law_cell"] ["_law_script"] (defScope l_bag_s) := ⟨rfl, rfl, rfl, by decide +kernel, rfl, by decide +kernel, by decide +kernel⟩
theorem l_bag_ok {l_bag_f : Addr} {l_bag_fd : FuncData} (T : Bltn mg) (l_bag_D : Dfn K mg "_law_bag" "_law_bag" l_bag_s ["_law_script"] l_bag_f l_bag_fd) : FnOk P w K mg base CX0 1 l_bag_f l_bag_fd ["_law_script"] (spOf (gS K sa (ns.map V.int) tr) 1 (spBag sa ns)) := by
  refine def_ok l_bag_D.F l_bag_sc rfl (fun cdv A fr s H E hr =>
    (wss_one (ws_ret (we_lst (wa_cons we_int (wa_cons we_int (wa_cons we_int (wa_cons (we_lc (own := [("_law_cell", 1)]) rfl l_bag_sc.nd (wi_seq (we_sliceS (pv 0) (by decide))) (blkOk_by (N := ["_law_script", "_law_cell"]) (sc := defScope l_bag_s) (own := [("_law_cell", 1)]) (by decide +kernel)) (fun _ => (wg_name 1 (pg_name l_bag_sc.nd rfl (by first | exact Or.inl rfl | exact Or.inr rfl)))) (fun _ => wts_nil) (fun _ => (we_cb (war_cons (wr_v 1 (pv 1)) war_nil) sc_abs (fun t h => pe_callB call_abs (by rfl) T.abs (by decide +kernel) h)))) wa_nil)))))))) ?_
  rintro ds Q hl ⟨rfl, hq⟩
  walk_at "dw"
  refine ⟨rfl, small_line (by simp; omega), wLc_all D.int (fun i => D.int (if i < 0 then -i else i)) (ns.take 63) _ (fun x hx R h => ?_) ?_⟩
  · walk_at "dw"
    exact h
  · refine ⟨le_line (by decide), ?_⟩
    rw [show (ns.take 63).map (fun i => D.int (if i < 0 then -i else i)) = (absI ns).map D.int by unfold absI; rw [List.map_map]; rfl]
    exact hq

abbrev shifted_s : Stmt := topS 15
theorem shifted_sc : FnScope ["group", "by", "person"] ["group", "by"] (defScope shifted_s) := ⟨rfl, rfl, rfl, by decide +kernel, rfl, by decide +kernel, by decide +kernel⟩
theorem shifted_ok {shifted_f : Addr} {shifted_fd : FuncData} (T : Bltn mg) (shifted_D : Dfn K mg "shifted" "shifted" shifted_s ["group", "by"] shifted_f shifted_fd) : FnOk P w K mg base CX0 1 shifted_f shifted_fd ["group", "by"] (spOf g 2 spShifted) := by
  refine def_ok shifted_D.F shifted_sc rfl (fun cdv A fr s H E hr =>
    (wss_one (ws_ret (we_cb (war_cons (we_lc (own := [("person", 2)]) rfl shifted_sc.nd (wi_seq (we_v 0 (pv 0))) (blkOk_by (N := ["group", "by", "person"]) (sc := defScope shifted_s) (own := [("person", 2)]) (by decide +kernel)) (fun _ => (wg_name 2 (pg_name shifted_sc.nd rfl (by first | exact Or.inl rfl | exact Or.inr rfl)))) (fun _ => wts_nil) (fun _ => (we_bin op_addA s2_add (wr_v 2 (pv 2)) (wr_v 1 (pv 1))))).rd war_nil) sc_tuple (fun t h => pe_callTy call_tuple_of (by rfl) T.tuple (by decide +kernel) h))))) ?_
  rintro ds Q hl ⟨r, k, rfl, hr, hq⟩
  walk_at "dw"
  refine ⟨small_line (by simp; omega), wLc_all D.int (fun x => D.int (x + k)) r _ (fun x hx R h => ?_) ?_⟩
  · walk_at "dw"
    exact h
  · rw [show (r.map fun x => D.int (x + k)) = (r.map fun x => x + k).map D.int by rw [List.map_map]; rfl]
    exact hq

end
end K17
namespace DW
open PySem PySem.Spec PyProof.Rows L2

/-- what the frame tells of an error without fields -/
structure UnlikeT (K : PySem.W.Frag) (mg : Str → Option Value) (C : Addr) : Prop where
  x : PySem.W.excIn K C [.type "ValueError", .type "Exception", .type "BaseException", .type "object"] "ValueError.__new__" = true
  g : mg "Unlike" = some (.ref C)
  k : PySem.W.keepIn K (.ref C) = true
  b : PySem.W.subIn K (.ref C) (.type "BaseException") = some true
  t : PySem.W.typeIn K (.ref C) = some (.type "type")
structure JobsF (K : PySem.W.Frag) (C : Addr) : Prop where
  sf : PySem.W.selfFirst K C = true
  ki : PySem.W.subIn K (.type "int") (.ref C) = some false
  kj : PySem.W.subIn K (.ref C) (.type "int") = some false
end DW
namespace K17
open PySem PySem.Spec PyProof.Rows L2 DW
local macro_rules | `(tactic| walk_at "dw") => `(tactic| simp only [rdS_0, rdS_s, rdO_0, rdO_1, rdO_s, startS, endD, mAdd_i, mAdd_b, mAdd_l, mAdd_t, mI_i, mIC_i, mB_i, mLen_l, mLen_t, mList_l, mList_t, mTuple_l, mTuple_t, mInt1_i, mInt1_b, mAbs_i, mIx_l, mIx_t, mSl_l, mSl_t, mSeq_l, mSeq_t, mEnum_l, mEnum_t, mFld_o, mExt_l, mRev_l, mRepr_1, put_f, put_t, frz_0, frz_1, frz_2, frz_s, wpS_0, wpS_1, DW.putAll,
  List.map_cons, List.map_nil, List.cons_append, List.nil_append, List.length_cons, List.length_nil, List.replicate_succ, List.replicate_zero, List.set_cons_zero, List.set_cons_succ, List.set_nil, Nat.reduceAdd, Nat.reduceSub, Nat.zero_add, Bool.not_true, Bool.not_false, if_true, if_false, Bool.false_eq_true, and_true, true_and, decide_eq_true_eq, eq_self, Bool.and_eq_true, Bool.or_eq_true, Bool.not_eq_true, D.bl.injEq, D.int.injEq, D.lst.injEq, D.tup.injEq, exists_eq_left', exists_eq_left, exists_eq_right])
section
variable {g : Gd} {P : Program} {w : World} {K : PySem.W.Frag} {mg : Str → Option Value} {base : Heap} {CJ CU CT CE CW CN fT b c sa : Addr} {cs ns : List Int} {tr : Prop}
abbrev Jobs___add___s : Stmt := inClass (topS 26) 16
theorem Jobs___add___sc : FnScope ["self", "other"] ["self", "other"] (defScope Jobs___add___s) := ⟨rfl, rfl, rfl, by decide +kernel, rfl, by decide +kernel, by decide +kernel⟩
abbrev Jobs___or___s : Stmt := inClass (topS 26) 19
theorem Jobs___or___sc : FnScope ["self", "other", "behind", "job"] ["self", "other"] (defScope Jobs___or___s) := ⟨rfl, rfl, rfl, by decide +kernel, rfl, by decide +kernel, by decide +kernel⟩
abbrev Jobs___mul___s : Stmt := inClass (topS 26) 17
theorem Jobs___mul___sc : FnScope ["self", "count"] ["self", "count"] (defScope Jobs___mul___s) := ⟨rfl, rfl, rfl, by decide +kernel, rfl, by decide +kernel, by decide +kernel⟩
abbrev Jobs___rmul___s : Stmt := inClass (topS 26) 18
theorem Jobs___rmul___sc : FnScope ["self", "count"] ["self", "count"] (defScope Jobs___rmul___s) := ⟨rfl, rfl, rfl, by decide +kernel, rfl, by decide +kernel, by decide +kernel⟩
theorem Jobs___add___ok {Jobs___add___f : Addr} {Jobs___add___fd : FuncData} (T : Bltn mg) (Jobs___add___D : Mth K CJ "__add__" "Jobs.__add__" Jobs___add___s ["self", "other"] Jobs___add___f Jobs___add___fd) (C_Jobs : ClsJ K mg CJ) {Jobs_init_f : Addr} {Jobs_init_fd : FuncData} (Jobs_init_D : IniJ K CJ Jobs_init_s Jobs_init_f Jobs_init_fd) (Jobs_init_G : FnOk P w K mg base CX0 4 Jobs_init_f Jobs_init_fd ["self", "size", "jobs"] (spInit g CJ)) {t_LIMIT : Tok} (N_LIMIT : mg "LIMIT" = some (.int 7 t_LIMIT)) (EU : UnlikeT K mg CU) (TT : PySem.TooManyX.TooManyTxt K mg CT fT) : FnOk P w K mg base (L2.CX P w) 6 Jobs___add___f Jobs___add___fd ["self", "other"] (spX g 2 (spAdd CJ CU CT)) := by
  refine def_okX Jobs___add___D.F Jobs___add___sc rfl (fun cdv A fr s H E hr =>
    (wssx_cons (wsx_if (WT.nox (wt_cmp (op_neF hr.units) s2_neF (we_fld (wr_v 0 (pv 0)) C_Jobs.cl C_Jobs.n_size).rd (we_fld (wr_v 1 (pv 1)) C_Jobs.cl C_Jobs.n_size).rd (nomark _))) (wssx_one (wsx_raise0 rfl (takes_of rfl rfl rfl rfl) (pmk_own0 PySem.F.excBase_ValueError EU.x EU.g EU.k (raises_own EU.b EU.t) (by exact rfl)))) (WSs.x wss_nil))
    (wssx_cons (wsx_if (WT.nox (wt_cmp op_gt s2_B (we_bin op_addA s2_add (we_cb (war_cons (we_fld (wr_v 0 (pv 0)) C_Jobs.cl C_Jobs.n_jobs).rd war_nil) sc_len (fun t h => pe_callB call_len_seq (by rfl) T.len (by decide +kernel) h)).rd (we_cb (war_cons (we_fld (wr_v 1 (pv 1)) C_Jobs.cl C_Jobs.n_jobs).rd war_nil) sc_len (fun t h => pe_callB call_len_seq (by rfl) T.len (by decide +kernel) h)).rd).rd (we_gi (by rfl) N_LIMIT).rd (nomark _))) (wssx_one (wsx_raise1 rfl (takes_of rfl rfl rfl rfl) (wa_cons (we_gi (by rfl) N_LIMIT) wa_nil) (fun ta h => pmk_TooMany TT hr h))) (WSs.x wss_nil))
    (WSs.x (WSs.nox (wss_one (ws_ret (make_J (war_cons (we_fld (wr_v 0 (pv 0)) C_Jobs.cl C_Jobs.n_size).rd (war_cons (we_bin op_addA s2_add (we_fld (wr_v 0 (pv 0)) C_Jobs.cl C_Jobs.n_jobs).rd (we_fld (wr_v 1 (pv 1)) C_Jobs.cl C_Jobs.n_jobs).rd).rd war_nil)) C_Jobs (fun t h => pe_make Jobs_init_D.made Jobs_init_G (hr.mono (by decide)) (by rfl) C_Jobs.mg Jobs_init_D.b .nil pass0 h))))))))) ?_
  rintro ds Q Xd hl ⟨n, rows, m, os, rfl, hg, hg', h⟩
  have h7 := hg.n7
  have h7' := hg'.n7
  have hl1 := hg.len
  have hl2 := hg'.len
  walk_at "dw"
  refine fld_size (fld_size (ne_int ⟨_, rfl, ?_⟩))
  rcases h with ⟨hne, hx⟩ | ⟨rfl, hlen, hx⟩ | ⟨rfl, hlen, hq⟩
  · rw [if_pos (by simpa using hne)]
    exact hx
  · rw [if_neg (by simp)]
    refine fld_jobs (len_tT (fld_jobs (len_tT ⟨_, rfl, ?_⟩)))
    rw [if_pos (decide_eq_true (by omega))]
    exact ⟨_, rfl, hx⟩
  · rw [if_neg (by simp)]
    refine fld_jobs (len_tT (fld_jobs (len_tT ⟨_, rfl, ?_⟩)))
    rw [if_neg (by simp; omega)]
    refine fld_size (fld_jobs (fld_jobs ⟨le_line (by simp; omega), n, rows ++ os, .inr ?_, good_app hg hg' hlen, hq⟩))
    unfold tT
    rw [List.map_append]

theorem Jobs___or___ok {Jobs___or___f : Addr} {Jobs___or___fd : FuncData} (T : Bltn mg) (Jobs___or___D : Mth K CJ "__or__" "Jobs.__or__" Jobs___or___s ["self", "other"] Jobs___or___f Jobs___or___fd) (C_Jobs : ClsJ K mg CJ) {Jobs_init_f : Addr} {Jobs_init_fd : FuncData} (Jobs_init_D : IniJ K CJ Jobs_init_s Jobs_init_f Jobs_init_fd) (Jobs_init_G : FnOk P w K mg base CX0 4 Jobs_init_f Jobs_init_fd ["self", "size", "jobs"] (spInit g CJ)) {t_LIMIT : Tok} (N_LIMIT : mg "LIMIT" = some (.int 7 t_LIMIT))
    {shifted_f : Addr} {shifted_fd : FuncData} (shifted_D : Dfn K mg "shifted" "shifted" shifted_s ["group", "by"] shifted_f shifted_fd) (shifted_G : FnOk P w K mg base CX0 1 shifted_f shifted_fd ["group", "by"] (spOf g 2 spShifted)) (TT : PySem.TooManyX.TooManyTxt K mg CT fT) : FnOk P w K mg base (L2.CX P w) 6 Jobs___or___f Jobs___or___fd ["self", "other"] (spX g 2 (spOr CJ CT)) := by
  refine def_okX Jobs___or___D.F Jobs___or___sc rfl (fun cdv A fr s H E hr =>
    (wssx_cons (wsx_if (WT.nox (ww_t (ww_or (wt_cmp op_gt s2_B (we_bin op_addA s2_add (we_fld (wr_v 0 (pv 0)) C_Jobs.cl C_Jobs.n_size).rd (we_fld (wr_v 1 (pv 1)) C_Jobs.cl C_Jobs.n_size).rd).rd (we_gi (by rfl) N_LIMIT).rd (nomark _)) (ww_or1 (wt_cmp op_gt s2_B (we_bin op_addA s2_add (we_cb (war_cons (we_fld (wr_v 0 (pv 0)) C_Jobs.cl C_Jobs.n_jobs).rd war_nil) sc_len (fun t h => pe_callB call_len_seq (by rfl) T.len (by decide +kernel) h)).rd (we_cb (war_cons (we_fld (wr_v 1 (pv 1)) C_Jobs.cl C_Jobs.n_jobs).rd war_nil) sc_len (fun t h => pe_callB call_len_seq (by rfl) T.len (by decide +kernel) h)).rd).rd (we_gi (by rfl) N_LIMIT).rd (nomark _)))))) (wssx_one (wsx_raise1 rfl (takes_of rfl rfl rfl rfl) (wa_cons (we_gi (by rfl) N_LIMIT) wa_nil) (fun ta h => pmk_TooMany TT hr h))) (WSs.x wss_nil))
    (WSs.x (WSs.nox (wss_cons (ws_setLc (own := [("job", 3)]) 2 false rfl Jobs___or___sc.nd rfl rfl (sw_true rfl rfl rfl (by decide +kernel)) (wi_seq (we_fld (wr_v 1 (pv 1)) C_Jobs.cl C_Jobs.n_jobs)) (blkOk_by (N := ["self", "other", "behind", "job"]) (sc := defScope Jobs___or___s) (own := [("job", 3)]) (by decide +kernel)) (fun _ => (wg_name 3 (pg_name Jobs___or___sc.nd rfl (by first | exact Or.inl rfl | exact Or.inr rfl)))) (fun _ => wts_nil) (fun _ => (we_call (wa_cons (we_v 3 (pv 3)) (wa_cons (we_fld (wr_v 0 (pv 0)) C_Jobs.cl C_Jobs.n_size) wa_nil)) (fun t h => pe_call shifted_G (hr.mono (by decide)) (by rfl) shifted_D.m shifted_D.F.kp shifted_D.b .nil pass0 h))))
    (wss_one (ws_ret (make_J (war_cons (we_bin op_addA s2_add (we_fld (wr_v 0 (pv 0)) C_Jobs.cl C_Jobs.n_size).rd (we_fld (wr_v 1 (pv 1)) C_Jobs.cl C_Jobs.n_size).rd).rd (war_cons (we_bin op_addA s2_add (we_cb (war_cons (we_fld (wr_v 0 (pv 0)) C_Jobs.cl C_Jobs.n_jobs).rd war_nil) sc_list (fun t h => pe_callTy call_list_of (by rfl) T.list (by decide +kernel) h)).rd (wr_v 2 (pv 2))).rd war_nil)) C_Jobs (fun t h => pe_make Jobs_init_D.made Jobs_init_G (hr.mono (by decide)) (by rfl) C_Jobs.mg Jobs_init_D.b .nil pass0 h))))))))) ?_
  rintro ds Q Xd hl ⟨n, rows, m, os, rfl, hg, hg', h⟩
  have h7 := hg.n7
  have h7' := hg'.n7
  have hl1 := hg.len
  have hl2 := hg'.len
  walk_at "dw"
  refine fld_size (fld_size ⟨_, rfl, ?_⟩)
  by_cases c1 : 7 < n + m
  · rw [if_pos (decide_eq_true c1)]
    rcases h with ⟨_, hx⟩ | ⟨h1, _⟩
    · exact ⟨_, rfl, hx⟩
    · omega
  rw [if_neg (by simp; omega)]
  refine fld_jobs (len_tT (fld_jobs (len_tT ⟨_, rfl, ?_⟩)))
  by_cases c2 : 7 < rows.length + os.length
  · rw [if_pos (decide_eq_true (by omega))]
    rcases h with ⟨_, hx⟩ | ⟨_, h1, _⟩
    · exact ⟨_, rfl, hx⟩
    · omega
  rw [if_neg (by simp; omega)]
  obtain ⟨h1, h2, hq⟩ := h.resolve_left (fun h => by have := h.1; omega)
  refine fld_jobs ?_
  rw [show tT os = .tup (os.map tI) from rfl, mSeq_t]
  refine ⟨small_line (by simp; omega), wLc_all tI (fun r => tI (r.map fun x => x + n)) os _ (fun r hr R h => ?_) ?_⟩
  · walk_at "dw"
    exact fld_size ⟨r, n, rfl, gp_len (hg'.gp r hr) h7', h⟩
  · refine fld_size (fld_size (add_ii (fld_jobs (list_tTl (add_ll (le_line (by simp; omega)) ⟨n + m, rows ++ plus n os, .inl ?_, good_bes hg hg' h1 h2, hq⟩)))))
    unfold lT plus
    rw [List.map_append, List.map_map]; rfl

theorem Jobs___mul___ok {Jobs___mul___f : Addr} {Jobs___mul___fd : FuncData} (T : Bltn mg) (Jobs___mul___D : Mth K CJ "__mul__" "Jobs.__mul__" Jobs___mul___s ["self", "count"] Jobs___mul___f Jobs___mul___fd) (C_Jobs : ClsJ K mg CJ) {Jobs_init_f : Addr} {Jobs_init_fd : FuncData} (Jobs_init_D : IniJ K CJ Jobs_init_s Jobs_init_f Jobs_init_fd) (Jobs_init_G : FnOk P w K mg base CX0 4 Jobs_init_f Jobs_init_fd ["self", "size", "jobs"] (spInit g CJ)) {t_LIMIT : Tok} (N_LIMIT : mg "LIMIT" = some (.int 7 t_LIMIT)) (TT : PySem.TooManyX.TooManyTxt K mg CT fT) : FnOk P w K mg base (L2.CX P w) 6 Jobs___mul___f Jobs___mul___fd ["self", "count"] (spX g 2 (spMul CJ CT)) := by
  refine def_okX Jobs___mul___D.F Jobs___mul___sc rfl (fun cdv A fr s H E hr =>
    (wssx_cons (wsx_if (WT.nox (wt_cmp op_gt s2_B (we_bin op_mulB s2_mulB (we_cb (war_cons (we_fld (wr_v 0 (pv 0)) C_Jobs.cl C_Jobs.n_jobs).rd war_nil) sc_len (fun t h => pe_callB call_len_seq (by rfl) T.len (by decide +kernel) h)).rd (wr_v 1 (pv 1))).rd (we_gi (by rfl) N_LIMIT).rd (nomark _))) (wssx_one (wsx_raise1 rfl (takes_of rfl rfl rfl rfl) (wa_cons (we_gi (by rfl) N_LIMIT) wa_nil) (fun ta h => pmk_TooMany TT hr h))) (WSs.x wss_nil))
    (WSs.x (WSs.nox (wss_one (ws_ret (make_J (war_cons (we_fld (wr_v 0 (pv 0)) C_Jobs.cl C_Jobs.n_size).rd (war_cons (we_bin op_mulB s2_mulB (we_fld (wr_v 0 (pv 0)) C_Jobs.cl C_Jobs.n_jobs).rd (wr_v 1 (pv 1))).rd war_nil)) C_Jobs (fun t h => pe_make Jobs_init_D.made Jobs_init_G (hr.mono (by decide)) (by rfl) C_Jobs.mg Jobs_init_D.b .nil pass0 h)))))))) ?_
  rintro ds Q Xd hl ⟨n, rows, k, rfl, hg, k0, k1, h⟩
  have h7 := hg.n7
  have hl1 := hg.len
  walk_at "dw"
  refine fld_jobs (len_tT ⟨.inl ⟨by omega, by omega⟩, _, rfl, ?_⟩)
  rcases h with ⟨h1, hx⟩ | ⟨h1, hq⟩
  · rw [if_pos (decide_eq_true h1)]
    exact ⟨_, rfl, hx⟩
  · rw [if_neg (by simp; omega)]
    refine fld_size (fld_jobs ?_)
    refine ⟨k0, k1, by simp; omega, n, rept k rows, .inr ?_, good_rept hg k0 h1, hq⟩
    rw [rept_tI]; rfl

theorem Jobs___rmul___ok {Jobs___rmul___f : Addr} {Jobs___rmul___fd : FuncData} (T : Bltn mg) (Jobs___rmul___D : Mth K CJ "__rmul__" "Jobs.__rmul__" Jobs___rmul___s ["self", "count"] Jobs___rmul___f Jobs___rmul___fd) (C_Jobs : ClsJ K mg CJ) (JF : JobsF K CJ) {Jobs___mul___f : Addr} {Jobs___mul___fd : FuncData} (Jobs___mul___D : Mth K CJ "__mul__" "Jobs.__mul__" Jobs___mul___s ["self", "count"] Jobs___mul___f Jobs___mul___fd) (Jobs___mul___X : FnOk P w K mg base (L2.CX P w) 6 Jobs___mul___f Jobs___mul___fd ["self", "count"] (spX g 2 (spMul CJ CT))) : FnOk P w K mg base (L2.CX P w) 7 Jobs___rmul___f Jobs___rmul___fd ["self", "count"] (spX g 2 (spMul CJ CT)) := by
  refine def_okX Jobs___rmul___D.F Jobs___rmul___sc rfl (fun cdv A fr s H E hr =>
    (wssx_one (wsx_ret (we_binI (we_v 0 (pv 0)) (we_v 1 (pv 1)) (fun ta tb h1 h2 => pe_binI Jobs___mul___X Jobs___mul___D.m.at_ Jobs___mul___D.m.fn Jobs___mul___D.b JF.sf Jobs___rmul___D.m.at_ JF.ki (fun σ => passAt (takes_of rfl rfl rfl rfl) σ) (hr.mono (by decide)) h1 h2))))) ?_
  rintro ds Q Xd hl ⟨n, rows, k, rfl, hg, k0, k1, h⟩
  walk_at "dw"
  exact ⟨_, k, rfl, rfl, n, rows, k, rfl, hg, k0, k1, h⟩

end
end K17
namespace DW
open PySem PySem.Spec PyProof.Rows L2

def tMany : D := .tup [.str "many", .int 7]
def tUnl : D := .tup [.str "unlike", .int 0]
def tMade (n : Int) (rows : List (List Int)) : D := .tup [.str "made", .int n, tT rows]
def dSum (n : Int) (rows : List (List Int)) (m : Int) (os : List (List Int)) : D := if n ≠ m then tUnl else if 7 < rows.length + os.length then tMany else tMade n (rows ++ os)
def dBes (n : Int) (rows : List (List Int)) (m : Int) (os : List (List Int)) : D := if 7 < n + m ∨ 7 < rows.length + os.length then tMany else tMade (n + m) (rows ++ plus n os)
def dRep (n : Int) (rows : List (List Int)) (k : Int) : D := if 7 < (rows.length : Int) * k then tMany else tMade n (rept k rows)
def spToldJ (C : Addr) (ds : List D) (Q : RQ) : Prop := (∃ n rows m os, ds = [.int 0, jO C n rows, jO C m os] ∧ good n rows ∧ good m os ∧ Q false (dSum n rows m os)) ∨
  (∃ n rows m os, ds = [.int 1, jO C n rows, jO C m os] ∧ good n rows ∧ good m os ∧ Q false (dBes n rows m os)) ∨
  (∃ n rows k, (ds = [.int 2, jO C n rows, .int k] ∨ ds = [.int 2, .int k, jO C n rows]) ∧ good n rows ∧ 0 ≤ k ∧ k ≤ 1000 ∧ Q false (dRep n rows k))
def spRep (ds : List D) (Q : RQ) : Prop := ∃ n rows k, ds = [.int n, lT rows, .int k] ∧ good n rows ∧ 0 ≤ k ∧ k ≤ 1000 ∧ Q false (dRep n rows k)
def spSum (ds : List D) (Q : RQ) : Prop := ∃ n rows m os, ds = [.int n, lT rows, .int m, lT os] ∧ good n rows ∧ good m os ∧ Q false (dSum n rows m os)
def spBes (ds : List D) (Q : RQ) : Prop := ∃ n rows m os, ds = [.int n, lT rows, .int m, lT os] ∧ good n rows ∧ good m os ∧ Q false (dBes n rows m os)
structure KindsF (K : PySem.W.Frag) (mg : Str → Option Value) (CE CW CN CT CU : Addr) : Prop where
  mE : mg "CrewError" = some (.ref CE)
  mW : mg "Wrong" = some (.ref CW)
  mN : mg "NoJob" = some (.ref CN)
  eT : ExcC K CT
  eU : ExcC K CU
  xT : PySem.W.exmOne K (.ref CT) (.ref CE) = some true
  xU : PySem.W.exmOne K (.ref CU) (.ref CE) = some true
  tU : PySem.W.kitOne K (.ref CT) (.ref CU) = some false
  tT : PySem.W.kitOne K (.ref CT) (.ref CT) = some true
  tW : PySem.W.kitOne K (.ref CT) (.ref CW) = some false
  tN : PySem.W.kitOne K (.ref CT) (.ref CN) = some false
  uU : PySem.W.kitOne K (.ref CU) (.ref CU) = some true
  uT : PySem.W.kitOne K (.ref CU) (.ref CT) = some false
  uW : PySem.W.kitOne K (.ref CU) (.ref CW) = some false
  uN : PySem.W.kitOne K (.ref CU) (.ref CN) = some false
end DW
namespace K17
open PySem PySem.Spec PyProof.Rows L2 DW
local macro_rules | `(tactic| walk_at "dw") => `(tactic| simp only [rdS_0, rdS_s, rdO_0, rdO_1, rdO_s, startS, endD, mAdd_i, mAdd_b, mAdd_l, mAdd_t, mI_i, mIC_i, mB_i, mLen_l, mLen_t, mList_l, mList_t, mTuple_l, mTuple_t, mInt1_i, mInt1_b, mAbs_i, mIx_l, mIx_t, mSl_l, mSl_t, mSeq_l, mSeq_t, mEnum_l, mEnum_t, mFld_o, mExt_l, mRev_l, mRepr_1, put_f, put_t, frz_0, frz_1, frz_2, frz_s, wpS_0, wpS_1, DW.putAll,
  List.map_cons, List.map_nil, List.cons_append, List.nil_append, List.length_cons, List.length_nil, List.replicate_succ, List.replicate_zero, List.set_cons_zero, List.set_cons_succ, List.set_nil, Nat.reduceAdd, Nat.reduceSub, Nat.zero_add, Bool.not_true, Bool.not_false, if_true, if_false, Bool.false_eq_true, and_true, true_and, decide_eq_true_eq, eq_self, Bool.and_eq_true, Bool.or_eq_true, Bool.not_eq_true, D.bl.injEq, D.int.injEq, D.lst.injEq, D.tup.injEq, exists_eq_left', exists_eq_left, exists_eq_right])
section
variable {g : Gd} {P : Program} {w : World} {K : PySem.W.Frag} {mg : Str → Option Value} {base : Heap} {CJ CU CT CE CW CN fT b c sa : Addr} {cs ns : List Int} {tr : Prop}
abbrev l_repeated_s : Stmt := topS 36
theorem l_repeated_sc : FnScope ["_law_size", "_law_rows", "_law_count"] ["_law_size", "_law_rows", "_law_count"] (defScope l_repeated_s) := ⟨rfl, rfl, rfl, by decide +kernel, rfl, by decide +kernel, by decide +kernel⟩
theorem l_repeated_ok {l_repeated_f : Addr} {l_repeated_fd : FuncData} (T : Bltn mg) (l_repeated_D : Dfn K mg "_law_repeated" "_law_repeated" l_repeated_s ["_law_size", "_law_rows", "_law_count"] l_repeated_f l_repeated_fd) : FnOk P w K mg base CX0 1 l_repeated_f l_repeated_fd ["_law_size", "_law_rows", "_law_count"] (spOf g 3 spRep) := by
  refine def_ok l_repeated_D.F l_repeated_sc rfl (fun cdv A fr s H E hr =>
    (wss_cons (ws_if (wt_cmp op_gt s2_B (we_bin op_mulB s2_mulB (we_cb (war_cons (wr_v 1 (pv 1)) war_nil) sc_len (fun t h => pe_callB call_len_seq (by rfl) T.len (by decide +kernel) h)).rd (wr_v 2 (pv 2))).rd (we_int).rd (nomark _)) (wss_one (ws_ret (we_tup (wa_cons we_str (wa_cons we_int wa_nil))))) wss_nil)
    (wss_one (ws_ret (we_tup (wa_cons we_str (wa_cons (we_v 0 (pv 0)) (wa_cons (we_cb (war_cons (we_bin op_mulB s2_mulB (wr_v 1 (pv 1)) (we_cb (war_cons (wr_v 2 (pv 2)) (war_cons (we_int).rd war_nil)) sc_min2 (fun t h => pe_callB (call_min2 rfl) (by rfl) T.min (by decide +kernel) h)).rd).rd war_nil) sc_tuple (fun t h => pe_callTy call_tuple_of (by rfl) T.tuple (by decide +kernel) h)) wa_nil)))))))) ?_
  rintro ds Q hl ⟨n, rows, k, rfl, hg, k0, k1, hq⟩
  walk_at "dw"
  have hl1 := hg.len
  refine len_lT ⟨.inl ⟨by omega, by omega⟩, _, rfl, ?_⟩
  unfold dRep at hq
  by_cases c : 7 < (rows.length : Int) * k
  · rw [if_pos c] at hq
    rw [if_pos (decide_eq_true c)]
    exact ⟨le_line (by decide), hq⟩
  · rw [if_neg c] at hq
    rw [if_neg (by simp; omega)]
    refine min2_ii (mulB_l (by omega) (by omega) (by simp; omega) (tup_lL ⟨le_line (by decide), ?_⟩))
    rw [rept_tI, rept_min k0 (by omega)]
    exact hq

abbrev l_sum_s : Stmt := topS 37
theorem l_sum_sc : FnScope ["_law_size", "_law_rows", "_law_wide", "_law_others"] ["_law_size", "_law_rows", "_law_wide", "_law_others"] (defScope l_sum_s) := ⟨rfl, rfl, rfl, by decide +kernel, rfl, by decide +kernel, by decide +kernel⟩
theorem l_sum_ok {l_sum_f : Addr} {l_sum_fd : FuncData} (T : Bltn mg) (l_sum_D : Dfn K mg "_law_sum" "_law_sum" l_sum_s ["_law_size", "_law_rows", "_law_wide", "_law_others"] l_sum_f l_sum_fd) : FnOk P w K mg base CX0 1 l_sum_f l_sum_fd ["_law_size", "_law_rows", "_law_wide", "_law_others"] (spOf g 4 spSum) := by
  refine def_ok l_sum_D.F l_sum_sc rfl (fun cdv A fr s H E hr =>
    (wss_cons (ws_if (wt_cmp (op_neF hr.units) s2_neF (wr_v 0 (pv 0)) (wr_v 2 (pv 2)) (nomark _)) (wss_one (ws_ret (we_tup (wa_cons we_str (wa_cons we_int wa_nil))))) wss_nil)
    (wss_cons (ws_if (wt_cmp op_gt s2_B (we_bin op_addA s2_add (we_cb (war_cons (wr_v 1 (pv 1)) war_nil) sc_len (fun t h => pe_callB call_len_seq (by rfl) T.len (by decide +kernel) h)).rd (we_cb (war_cons (wr_v 3 (pv 3)) war_nil) sc_len (fun t h => pe_callB call_len_seq (by rfl) T.len (by decide +kernel) h)).rd).rd (we_int).rd (nomark _)) (wss_one (ws_ret (we_tup (wa_cons we_str (wa_cons we_int wa_nil))))) wss_nil)
    (wss_one (ws_ret (we_tup (wa_cons we_str (wa_cons (we_v 0 (pv 0)) (wa_cons (we_cb (war_cons (we_bin op_addA s2_add (wr_v 1 (pv 1)) (wr_v 3 (pv 3))).rd war_nil) sc_tuple (fun t h => pe_callTy call_tuple_of (by rfl) T.tuple (by decide +kernel) h)) wa_nil))))))))) ?_
  rintro ds Q hl ⟨n, rows, m, os, rfl, hg, hg', hq⟩
  have hl1 := hg.len
  have hl2 := hg'.len
  walk_at "dw"
  refine ne_int ⟨_, rfl, ?_⟩
  unfold dSum at hq
  by_cases c : n = m
  · rw [if_neg (by simpa using c)] at hq
    rw [if_neg (by simp [c])]
    refine len_lT (len_lT ⟨_, rfl, ?_⟩)
    by_cases c2 : 7 < rows.length + os.length
    · rw [if_pos c2] at hq
      rw [if_pos (decide_eq_true (by omega))]
      exact ⟨le_line (by decide), hq⟩
    · rw [if_neg c2] at hq
      rw [if_neg (by simp; omega)]
      refine add_ll (le_line (by simp; omega)) (tup_lL ⟨le_line (by decide), ?_⟩)
      rw [← List.map_append]
      exact hq
  · rw [if_pos c] at hq
    rw [if_pos (by simp [c])]
    exact ⟨le_line (by decide), hq⟩

abbrev l_beside_s : Stmt := topS 38
theorem l_beside_sc : FnScope ["_law_size", "_law_rows", "_law_wide", "_law_others", "_law_behind", "_law_p", "_law_job_here"] ["_law_size", "_law_rows", "_law_wide", "_law_others"] (defScope l_beside_s) := ⟨rfl, rfl, rfl, by decide +kernel, rfl, by decide +kernel, by decide +kernel⟩
theorem l_beside_ok {l_beside_f : Addr} {l_beside_fd : FuncData} (T : Bltn mg) (l_beside_D : Dfn K mg "_law_beside" "_law_beside" l_beside_s ["_law_size", "_law_rows", "_law_wide", "_law_others"] l_beside_f l_beside_fd) : FnOk P w K mg base CX0 1 l_beside_f l_beside_fd ["_law_size", "_law_rows", "_law_wide", "_law_others"] (spOf g 4 spBes) := by
  refine def_ok l_beside_D.F l_beside_sc rfl (fun cdv A fr s H E hr =>
    (wss_cons (ws_if (ww_t (ww_or (wt_cmp op_gt s2_B (we_bin op_addA s2_add (wr_v 0 (pv 0)) (wr_v 2 (pv 2))).rd (we_int).rd (nomark _)) (ww_or1 (wt_cmp op_gt s2_B (we_bin op_addA s2_add (we_cb (war_cons (wr_v 1 (pv 1)) war_nil) sc_len (fun t h => pe_callB call_len_seq (by rfl) T.len (by decide +kernel) h)).rd (we_cb (war_cons (wr_v 3 (pv 3)) war_nil) sc_len (fun t h => pe_callB call_len_seq (by rfl) T.len (by decide +kernel) h)).rd).rd (we_int).rd (nomark _))))) (wss_one (ws_ret (we_tup (wa_cons we_str (wa_cons we_int wa_nil))))) wss_nil)
    (wss_cons (ws_setLc (own := [("_law_job_here", 6)]) 4 false rfl l_beside_sc.nd rfl rfl (sw_true rfl rfl rfl (by decide +kernel)) (wi_seq (we_v 3 (pv 3))) (blkOk_by (N := ["_law_size", "_law_rows", "_law_wide", "_law_others", "_law_behind", "_law_p", "_law_job_here"]) (sc := defScope l_beside_s) (own := [("_law_job_here", 6)]) (by decide +kernel)) (fun _ => (wg_name 6 (pg_name l_beside_sc.nd rfl (by first | exact Or.inl rfl | exact Or.inr rfl)))) (fun _ => wts_nil) (fun _ => (we_cb (war_cons (we_lc (own := [("_law_p", 5)]) rfl l_beside_sc.nd (wi_seq (we_v 6 (pv 6))) (blkOk_by (N := ["_law_size", "_law_rows", "_law_wide", "_law_others", "_law_behind", "_law_p", "_law_job_here"]) (sc := relS _ (defScope l_beside_s)) (own := [("_law_p", 5)]) (by decide +kernel)) (fun _ => (wg_name 5 (pg_name l_beside_sc.nd rfl (by first | exact Or.inl rfl | exact Or.inr rfl)))) (fun _ => wts_nil) (fun _ => (we_bin op_addA s2_add (wr_v 5 (pv 5)) (wr_v 0 (pv 0))))).rd war_nil) sc_tuple (fun t h => pe_callTy call_tuple_of (by rfl) T.tuple (by decide +kernel) h))))
    (wss_one (ws_ret (we_tup (wa_cons we_str (wa_cons (we_bin op_addA s2_add (wr_v 0 (pv 0)) (wr_v 2 (pv 2))) (wa_cons (we_cb (war_cons (we_bin op_addA s2_add (wr_v 1 (pv 1)) (wr_v 4 (pv 4))).rd war_nil) sc_tuple (fun t h => pe_callTy call_tuple_of (by rfl) T.tuple (by decide +kernel) h)) wa_nil))))))))) ?_
  rintro ds Q hl ⟨n, rows, m, os, rfl, hg, hg', hq⟩
  have hl1 := hg.len
  have hl2 := hg'.len
  walk_at "dw"
  unfold dBes at hq
  by_cases c : 7 < n + m
  · rw [if_pos (.inl c)] at hq
    rw [if_pos c]
    exact ⟨le_line (by decide), hq⟩
  rw [if_neg c]
  refine len_lT (len_lT ⟨_, rfl, ?_⟩)
  by_cases c2 : 7 < rows.length + os.length
  · rw [if_pos (.inr c2)] at hq
    rw [if_pos (decide_eq_true (by omega))]
    exact ⟨le_line (by decide), hq⟩
  rw [if_neg (by simp; omega)]
  rw [if_neg (by omega)] at hq
  show (os.map tI).length < sizeLine ∧ wLc _ _ _ _ (os.map tI) _
  refine ⟨small_line (by simp; omega), wLc_all tI (fun r => tI (r.map fun x => x + n)) os _ (fun r hr R h => ?_) ?_⟩
  · walk_at "dw"
    show (r.map D.int).length < sizeLine ∧ wLc _ _ _ _ (r.map D.int) _
    have := gp_len (hg'.gp r hr) hg'.n7
    refine ⟨small_line (by simp; omega), wLc_all D.int (fun x => D.int (x + n)) r _ (fun x hx R2 h2 => ?_) ?_⟩
    · walk_at "dw"
      exact h2
    · rw [show (r.map fun x => D.int (x + n)) = (r.map fun x => x + n).map D.int by rw [List.map_map]; rfl]
      exact h
  · refine add_ll (le_line (by simp; omega)) (tup_lL ⟨le_line (by decide), ?_⟩)
    rw [show (os.map fun r => tI (r.map fun x => x + n)) = (plus n os).map tI by unfold plus; rw [List.map_map]; rfl, ← List.map_append]
    exact hq

abbrev l_told_s : Stmt := topS 35
theorem l_told_sc : FnScope ["_law_way", "_law_one_here", "_law_other", "_law_jobs_here", "e", "_law_kinds"] ["_law_way", "_law_one_here", "_law_other"] (defScope l_told_s) := ⟨rfl, rfl, rfl, by decide +kernel, rfl, by decide +kernel, by decide +kernel⟩
theorem l_told_ok {l_told_f : Addr} {l_told_fd : FuncData} (T : Bltn mg) (l_told_D : Dfn K mg "_law_told" "_law_told" l_told_s ["_law_way", "_law_one_here", "_law_other"] l_told_f l_told_fd) (C_Jobs : ClsJ K mg CJ) (JF : JobsF K CJ) (EU : UnlikeT K mg CU) (TT : PySem.TooManyX.TooManyTxt K mg CT fT) (KF : KindsF K mg CE CW CN CT CU)
    {Jobs___add___f : Addr} {Jobs___add___fd : FuncData} (Jobs___add___D : Mth K CJ "__add__" "Jobs.__add__" Jobs___add___s ["self", "other"] Jobs___add___f Jobs___add___fd) (Jobs___add___X : FnOk P w K mg base (L2.CX P w) 6 Jobs___add___f Jobs___add___fd ["self", "other"] (spX g 2 (spAdd CJ CU CT)))
    {Jobs___or___f : Addr} {Jobs___or___fd : FuncData} (Jobs___or___D : Mth K CJ "__or__" "Jobs.__or__" Jobs___or___s ["self", "other"] Jobs___or___f Jobs___or___fd) (Jobs___or___X : FnOk P w K mg base (L2.CX P w) 6 Jobs___or___f Jobs___or___fd ["self", "other"] (spX g 2 (spOr CJ CT)))
    {Jobs___mul___f : Addr} {Jobs___mul___fd : FuncData} (Jobs___mul___D : Mth K CJ "__mul__" "Jobs.__mul__" Jobs___mul___s ["self", "count"] Jobs___mul___f Jobs___mul___fd) (Jobs___mul___X : FnOk P w K mg base (L2.CX P w) 6 Jobs___mul___f Jobs___mul___fd ["self", "count"] (spX g 2 (spMul CJ CT)))
    {Jobs___rmul___f : Addr} {Jobs___rmul___fd : FuncData} (Jobs___rmul___D : Mth K CJ "__rmul__" "Jobs.__rmul__" Jobs___rmul___s ["self", "count"] Jobs___rmul___f Jobs___rmul___fd) (Jobs___rmul___X : FnOk P w K mg base (L2.CX P w) 7 Jobs___rmul___f Jobs___rmul___fd ["self", "count"] (spX g 2 (spMul CJ CT))) : FnOk P w K mg base CX0 8 l_told_f l_told_fd ["_law_way", "_law_one_here", "_law_other"] (spOf g 3 (spToldJ CJ)) := by
  refine def_ok l_told_D.F l_told_sc rfl (fun cdv A fr s H E hr =>
    wss_cons (ws_tryAs K rfl (i := 4) (Pc := fun C fs => (C = CT ∧ fs = [(("limit" : Str), .int 7)]) ∨ (C = CU ∧ fs = [])) (ws := fun a C d fs De st => st = [.un, .un, .un, .un, .val (.rf a), .un] ∧ De.rt false (if C = CU then tUnl else tMany)) rfl rfl l_told_sc.nd rfl rfl ⟨rfl, by decide, .inl KF.mE⟩ takes0
      (fun W pn xe tk _ => (ws1_if (wt_cmp (op_eqF hr.units) s2_eqF (wr_v 0 (pv 0)) (we_int).rd (nomark _)) (ws1_set 3 (we_binS (we_v 1 (pv 1)) (we_v 2 (pv 2)) (fun ta tb h1 h2 => pe_binS (op := .Add) Jobs___add___X Jobs___add___D.m.at_ Jobs___add___D.m.fn Jobs___add___D.b JF.sf (fun σ => passAt tk σ) (hr.mono (by decide)) h1 h2)) (fun te h => ps_set (i := 3) l_told_sc.nd rfl (by first | exact Or.inl rfl | exact Or.inr rfl) h)) (ws1_if (wt_cmp (op_eqF hr.units) s2_eqF (wr_v 0 (pv 0)) (we_int).rd (nomark _)) (ws1_set 3 (we_binS (we_v 1 (pv 1)) (we_v 2 (pv 2)) (fun ta tb h1 h2 => pe_binS (op := .BitOr) Jobs___or___X Jobs___or___D.m.at_ Jobs___or___D.m.fn Jobs___or___D.b JF.sf (fun σ => passAt tk σ) (hr.mono (by decide)) h1 h2)) (fun te h => ps_set (i := 3) l_told_sc.nd rfl (by first | exact Or.inl rfl | exact Or.inr rfl) h)) (ws1_set 3 (wex_or (we_binI (we_v 1 (pv 1)) (we_v 2 (pv 2)) (fun ta tb h1 h2 => pe_binI Jobs___mul___X Jobs___mul___D.m.at_ Jobs___mul___D.m.fn Jobs___mul___D.b JF.sf Jobs___rmul___D.m.at_ JF.ki (fun σ => passAt tk σ) (hr.mono (by decide)) h1 h2)) (we_binR (we_v 1 (pv 1)) (we_v 2 (pv 2)) (fun ta tb h1 h2 => pe_binR Jobs___rmul___X Jobs___rmul___D.m.at_ Jobs___rmul___D.m.fn Jobs___rmul___D.b JF.sf Jobs___mul___D.m.at_ JF.kj (fun σ => passAt tk σ) (hr.mono (by decide)) h1 h2))) (fun te h => ps_set (i := 3) l_told_sc.nd rfl (by first | exact Or.inl rfl | exact Or.inr rfl) h)))))
      (fun a oe C d fs pn hP hd hZ hF => by
        by_cases hP2 : C = CT ∧ fs = [(("limit" : Str), .int 7)]
        · obtain ⟨rfl, rfl⟩ := hP2
          have hd' : d ≠ none := hd.resolve_left (by simp)
          refine WSs.imp (show WSs (gE g d [(("limit" : Str), (D.int 7).fv)]) _ _ _ from (wss_cons (ws_set 5 (we_lst (wa_cons (we_cb (war_cons (wr_v 4 (pv 4)) (war_cons (we_rf (by rfl) EU.g).rd war_nil)) sc_isED (fun t h => pe_callB (call_isED KF.eT hZ hF) (by rfl) T.isinstance (by decide +kernel) h)) (wa_cons (we_cb (war_cons (wr_v 4 (pv 4)) (war_cons (we_rf (by rfl) TT.gC).rd war_nil)) sc_isED (fun t h => pe_callB (call_isED KF.eT hZ hF) (by rfl) T.isinstance (by decide +kernel) h)) (wa_cons (we_cb (war_cons (wr_v 4 (pv 4)) (war_cons (we_rf (by rfl) KF.mW).rd war_nil)) sc_isED (fun t h => pe_callB (call_isED KF.eT hZ hF) (by rfl) T.isinstance (by decide +kernel) h)) (wa_cons (we_cb (war_cons (wr_v 4 (pv 4)) (war_cons (we_rf (by rfl) KF.mN).rd war_nil)) sc_isED (fun t h => pe_callB (call_isED KF.eT hZ hF) (by rfl) T.isinstance (by decide +kernel) h)) wa_nil))))) (fun te h => ps_set (i := 5) l_told_sc.nd rfl (by first | exact Or.inl rfl | exact Or.inr rfl) h))
 (wss_cons (ws_if (wt_cmp (op_neF hr.units) s2_neF (we_count (wr_v 5 (pv 5)) we_bl (fun t0 t1 h0 h1 => pe_bm PySem.F.plainAttrs_list PySem.F.slot_list_count PySem.F.type_list_count mt_countF h0 (pa_cons h1 pa_nil))).rd (we_int).rd (nomark _)) (wss_one (ws_ret (we_tup (wa_cons we_str (wa_cons we_int wa_nil))))) wss_nil)
 (wss_cons (ws_if (wt_val (we_ix ix_seq s2_ix (wr_v 5 (pv 5)) (we_int).rd)) (wss_one (ws_ret (we_tup (wa_cons we_str (wa_cons (we_eFld (x := .int 7) (we_v 4 (pv 4)) hd' rfl (fun te h => pe_byTooMany TT hZ hF h)) wa_nil))))) wss_nil)
 (wss_one (ws_ret (we_ifE (wt_val (we_ix ix_seq s2_ix (wr_v 5 (pv 5)) (we_int).rd)) (we_tup (wa_cons we_str (wa_cons we_int wa_nil))) (we_tup (wa_cons we_str (wa_cons we_int wa_nil)))))))))) ?_
          rintro De st ⟨rfl, h⟩
          walk_at "dw"
          have nU : C ≠ CU := fun e => by
            have z := KF.tT
            rw [e] at z
            have z2 := KF.tU
            rw [e, z] at z2
            cases z2
          rw [if_neg nU] at h
          refine ⟨.rf CU, .ref CU, false, rfl, rfl, KF.tU, ⟨.rf C, .ref C, true, rfl, rfl, KF.tT, ⟨.rf CW, .ref CW, false, rfl, rfl, KF.tW, ⟨.rf CN, .ref CN, false, rfl, rfl, KF.tN, le_line (by decide), rfl, rfl, ne_int ⟨_, rfl, ?_⟩⟩⟩⟩⟩
          rw [if_neg (by decide)]
          refine ⟨_, rfl, _, rfl, ?_⟩
          rw [if_pos rfl]
          exact ⟨le_line (by decide), h⟩
        · obtain ⟨rfl, rfl⟩ := hP.resolve_left hP2
          refine WSs.imp (show WSs (gE g d []) _ _ _ from (wss_cons (ws_set 5 (we_lst (wa_cons (we_cb (war_cons (wr_v 4 (pv 4)) (war_cons (we_rf (by rfl) EU.g).rd war_nil)) sc_isED (fun t h => pe_callB (call_isED KF.eU hZ hF) (by rfl) T.isinstance (by decide +kernel) h)) (wa_cons (we_cb (war_cons (wr_v 4 (pv 4)) (war_cons (we_rf (by rfl) TT.gC).rd war_nil)) sc_isED (fun t h => pe_callB (call_isED KF.eU hZ hF) (by rfl) T.isinstance (by decide +kernel) h)) (wa_cons (we_cb (war_cons (wr_v 4 (pv 4)) (war_cons (we_rf (by rfl) KF.mW).rd war_nil)) sc_isED (fun t h => pe_callB (call_isED KF.eU hZ hF) (by rfl) T.isinstance (by decide +kernel) h)) (wa_cons (we_cb (war_cons (wr_v 4 (pv 4)) (war_cons (we_rf (by rfl) KF.mN).rd war_nil)) sc_isED (fun t h => pe_callB (call_isED KF.eU hZ hF) (by rfl) T.isinstance (by decide +kernel) h)) wa_nil))))) (fun te h => ps_set (i := 5) l_told_sc.nd rfl (by first | exact Or.inl rfl | exact Or.inr rfl) h))
 (wss_cons (ws_if (wt_cmp (op_neF hr.units) s2_neF (we_count (wr_v 5 (pv 5)) we_bl (fun t0 t1 h0 h1 => pe_bm PySem.F.plainAttrs_list PySem.F.slot_list_count PySem.F.type_list_count mt_countF h0 (pa_cons h1 pa_nil))).rd (we_int).rd (nomark _)) (wss_one (ws_ret (we_tup (wa_cons we_str (wa_cons we_int wa_nil))))) wss_nil)
 (wss_cons (ws_if (wt_val (we_ix ix_seq s2_ix (wr_v 5 (pv 5)) (we_int).rd)) (wss_one ws_never) wss_nil)
 (wss_one (ws_ret (we_ifE (wt_val (we_ix ix_seq s2_ix (wr_v 5 (pv 5)) (we_int).rd)) (we_tup (wa_cons we_str (wa_cons we_int wa_nil))) (we_tup (wa_cons we_str (wa_cons we_int wa_nil)))))))))) ?_
          rintro De st ⟨rfl, h⟩
          walk_at "dw"
          rw [if_pos rfl] at h
          refine ⟨.rf C, .ref C, true, rfl, rfl, KF.uU, ⟨.rf CT, .ref CT, false, rfl, rfl, KF.uT, ⟨.rf CW, .ref CW, false, rfl, rfl, KF.uW, ⟨.rf CN, .ref CN, false, rfl, rfl, KF.uN, le_line (by decide), rfl, rfl, ne_int ⟨_, rfl, ?_⟩⟩⟩⟩⟩
          rw [if_neg (by decide)]
          refine ⟨_, rfl, _, rfl, ?_⟩
          rw [if_neg (by decide)]
          refine ⟨_, rfl, _, rfl, ?_⟩
          rw [if_pos rfl]
          exact ⟨le_line (by decide), h⟩))
      (wss_one (ws_ret (we_tup (wa_cons we_str (wa_cons (we_fld (wr_v 3 (pv 3)) C_Jobs.cl C_Jobs.n_size) (wa_cons (we_fld (wr_v 3 (pv 3)) C_Jobs.cl C_Jobs.n_jobs) wa_nil))))))) ?_
  have nU : CT ≠ CU := fun e => by
    have z := KF.tT
    rw [e] at z
    have z2 := KF.tU
    rw [e, z] at z2
    cases z2
  rintro ds Q hl (⟨n, rows, m, os, rfl, hg, hg', hq⟩ | ⟨n, rows, m, os, rfl, hg, hg', hq⟩ | ⟨n, rows, k, hds, hg, k0, k1, hq⟩)
  · walk_at "dw"
    refine eq_int ⟨_, rfl, ?_⟩
    rw [if_pos (by decide)]
    refine ⟨_, _, rfl, rfl, n, rows, m, os, rfl, hg, hg', ?_⟩
    unfold dSum at hq
    by_cases c : n = m
    · rw [if_neg (by simpa using c)] at hq
      by_cases c2 : 7 < rows.length + os.length
      · rw [if_pos c2] at hq
        exact .inr (.inl ⟨c, c2, KF.xT, rfl, .inl ⟨rfl, rfl⟩, fun a d _ => by rw [if_neg nU]; exact hq⟩)
      · rw [if_neg c2] at hq
        exact .inr (.inr ⟨c, by omega, fld_size (fld_jobs ⟨le_line (by decide), hq⟩)⟩)
    · rw [if_pos c] at hq
      exact .inl ⟨c, KF.xU, rfl, .inr ⟨rfl, rfl⟩, fun a d _ => by rw [if_pos rfl]; exact hq⟩
  · walk_at "dw"
    refine eq_int ⟨_, rfl, ?_⟩
    rw [if_neg (by decide)]
    refine eq_int ⟨_, rfl, ?_⟩
    rw [if_pos (by decide)]
    refine ⟨_, _, rfl, rfl, n, rows, m, os, rfl, hg, hg', ?_⟩
    unfold dBes at hq
    by_cases c : 7 < n + m ∨ 7 < rows.length + os.length
    · rw [if_pos c] at hq
      exact .inl ⟨c, KF.xT, rfl, .inl ⟨rfl, rfl⟩, fun a d _ => by rw [if_neg nU]; exact hq⟩
    · rw [if_neg c] at hq
      exact .inr ⟨by omega, by omega, fld_size (fld_jobs ⟨le_line (by decide), hq⟩)⟩
  · have key : spMul CJ CT [jO CJ n rows, .int k] (fun x d => mFld "size" CJ d fun x d_1 => mFld "jobs" CJ d fun x d => 3 ≤ sizeLine ∧ Q false (D.tup [D.str "made", d_1, d])) (fun C fs => PySem.W.exmOne K (Value.ref C) (Value.ref CE) = some true ∧ (fs.all fun p => p.snd.flat) = true ∧ (C = CT ∧ fs = [(("limit" : Str), D.int 7)] ∨ C = CU ∧ fs = []) ∧ ∀ (a : Addr) (d : Option Addr), fs = [] ∨ d ≠ none → Q false (if C = CU then tUnl else tMany)) := by
      refine ⟨n, rows, k, rfl, hg, k0, k1, ?_⟩
      unfold dRep at hq
      by_cases c : 7 < (rows.length : Int) * k
      · rw [if_pos c] at hq
        exact .inl ⟨c, KF.xT, rfl, .inl ⟨rfl, rfl⟩, fun a d _ => by rw [if_neg nU]; exact hq⟩
      · rw [if_neg c] at hq
        exact .inr ⟨by omega, fld_size (fld_jobs ⟨le_line (by decide), hq⟩)⟩
    rcases hds with rfl | rfl
    · walk_at "dw"
      refine eq_int ⟨_, rfl, ?_⟩
      rw [if_neg (by decide)]
      refine eq_int ⟨_, rfl, ?_⟩
      rw [if_neg (by decide)]
      exact .inl ⟨_, k, rfl, rfl, key⟩
    · walk_at "dw"
      refine eq_int ⟨_, rfl, ?_⟩
      rw [if_neg (by decide)]
      refine eq_int ⟨_, rfl, ?_⟩
      rw [if_neg (by decide)]
      exact .inr ⟨_, rfl, key⟩

end
end K17
namespace DW
open PySem PySem.Spec PyProof.Rows L2
theorem rel_two {g : Gd} {Av : Addr → Prop} {H : Hp} {σ : L2.St} {p : Addr} {k : Nat} (hg : g.G H) (hl : σ.length = k + 2) (h1 : σ[1]? = some (some (.ref p))) :
    Rel g Av (fun _ => False) (fun _ _ => False) H (fun _ => 0) σ (.un :: .val (.rf p) :: List.replicate k .un) H := by
  have nun : ∀ (i : Nat) (s : Sl), (List.replicate k Sl.un)[i]? = some s → s = .un := fun i s h => List.eq_of_mem_replicate (List.mem_of_getElem? h)
  refine ⟨by simp [hl], Kp.refl hg, fun i d e => ?_, fun i ds e => ?_, fun i j ds es e _ => ?_, fun a h => h.elim, fun v d h => h.elim⟩
  · match i, e with
    | 1, e => cases e; exact ⟨_, h1, .rf p⟩
    | i + 2, e => exact nomatch nun i _ e
  · match i, e with
    | i + 2, e => exact nomatch nun i _ e
  · match i, e with
    | i + 2, e => exact nomatch nun i _ e
/-- what the first statement leaves: the bag and the script in it -/
theorem bag_at {Av : Addr → Prop} {H : Hp} {v : V} {cs : List Int} (h : DR Av H v (.lst [.int 0, .int 987654321, .int 0, lI cs])) : ∃ p c, v = .ref p ∧ BagAt p c cs H := by
  cases h with
  | lst n e r =>
    rename_i p vs
    cases r with
    | cons r0 r =>
    cases r0
    cases r with
    | cons r1 r =>
    cases r1
    cases r with
    | cons r2 r =>
    cases r2
    cases r with
    | cons r3 r =>
    cases r
    cases r3 with
    | lst n2 e2 r2 =>
      rename_i c us
      cases r2.ints
      refine ⟨p, c, rfl, ⟨0, 987654321, 0, by decide, by decide, by decide, by decide, e⟩, e2, ?_⟩
      rintro rfl
      rw [e] at e2
      cases cs with
      | nil => cases e2
      | cons x cs =>
        injection e2 with e2
        injection e2 with e2
        match cs, e2 with
        | [], e2 => cases e2
        | [_], e2 => cases e2
        | [_, _], e2 => cases e2
        | [_, _, y], e2 => cases e2

theorem Sh.le {W P W' P' : Nat} {d : D} (h : Sh W P d) (hw : W ≤ W' := by decide) (hp : P ≤ P' := by decide) : Sh W' P' d := ⟨h.t, Nat.le_trans h.w hw, Nat.le_trans h.p hp⟩
theorem sh_many : Sh 150 3 tMany := ⟨by decide +kernel, by decide +kernel, by decide +kernel⟩
theorem sh_unl : Sh 150 3 tUnl := ⟨by decide +kernel, by decide +kernel, by decide +kernel⟩
theorem sh_madeW : Sh 10 0 (.str "made") := ⟨by decide +kernel, by decide +kernel, by decide +kernel⟩
theorem sh_made {n : Int} {rows : List (List Int)} (h : good n rows) : Sh 150 3 (tMade n rows) :=
  Sh.le (sh_tup (shs_cons sh_madeW (shs_cons (small_int (x := n) (n := 1000) ⟨h.n0, by have := h.n7; omega⟩ (by decide)) (shs_cons (sh_tT h) shs_nil))))
theorem sh_sum {n m : Int} {rows os : List (List Int)} (h : good n rows) (h' : good m os) : Sh 150 3 (dSum n rows m os) := by
  unfold dSum
  split
  · exact sh_unl
  · rename_i c
    have c : n = m := Classical.not_not.mp c
    subst c
    split
    · exact sh_many
    · exact sh_made (good_app h h' (by omega))
theorem sh_bes {n m : Int} {rows os : List (List Int)} (h : good n rows) (h' : good m os) : Sh 150 3 (dBes n rows m os) := by
  unfold dBes
  split
  · exact sh_many
  · exact sh_made (good_bes h h' (by omega) (by omega))
theorem sh_rep {n k : Int} {rows : List (List Int)} (h : good n rows) (k0 : 0 ≤ k) : Sh 150 3 (dRep n rows k) := by
  unfold dRep
  split
  · exact sh_many
  · exact sh_made (good_rept h k0 (by omega))
theorem if_both {b : Addr} {c : Prop} [Decidable c] {n : Int} {R : D → Prop} (n0 : 0 ≤ n) (n8 : n < 8) (h : ∀ m : Int, 0 ≤ m → m < 8 → R (.int m)) : if c then spTake b [.rf b, .int 8] (fun _ d => R d) else R (.int n) := by
  split
  · exact ⟨8, rfl, by decide, by decide, fun m h0 h1 => h m h0 h1⟩
  · exact h n n0 n8
theorem tup_lT {rows : List (List Int)} {Q : RQ} (h : Q false (tT rows)) : mTuple [lT rows] Q := h
theorem list_lT {rows : List (List Int)} {Q : RQ} (h : Q true (lT rows)) : mList [lT rows] Q := h
end DW
namespace K17
open PySem PySem.Spec PyProof.Rows L2 DW
local macro_rules | `(tactic| walk_at "dw") => `(tactic| simp only [rdS_0, rdS_s, rdO_0, rdO_1, rdO_s, startS, endD, mAdd_i, mAdd_b, mAdd_l, mAdd_t, mI_i, mIC_i, mB_i, mLen_l, mLen_t, mList_l, mList_t, mTuple_l, mTuple_t, mInt1_i, mInt1_b, mAbs_i, mIx_l, mIx_t, mSl_l, mSl_t, mSeq_l, mSeq_t, mEnum_l, mEnum_t, mFld_o, mExt_l, mRev_l, mRepr_1, put_f, put_t, frz_0, frz_1, frz_2, frz_s, wpS_0, wpS_1, DW.putAll,
  List.map_cons, List.map_nil, List.cons_append, List.nil_append, List.length_cons, List.length_nil, List.replicate_succ, List.replicate_zero, List.set_cons_zero, List.set_cons_succ, List.set_nil, Nat.reduceAdd, Nat.reduceSub, Nat.zero_add, Bool.not_true, Bool.not_false, if_true, if_false, Bool.false_eq_true, and_true, true_and, decide_eq_true_eq, eq_self, Bool.and_eq_true, Bool.or_eq_true, Bool.not_eq_true, D.bl.injEq, D.int.injEq, D.lst.injEq, D.tup.injEq, exists_eq_left', exists_eq_left, exists_eq_right])
section
variable {P : Program} {w : World} {K : PySem.W.Frag} {mg : Str → Option Value} {base : Heap} {CJ : Addr}
abbrev l_law_s : Stmt := topS 39
theorem l_law_sc : FnScope ["_law_script", "_law_bag_here", "_law_step", "_law_size", "_law_most", "_law_wide", "_law_rows", "_law_others", "_law_one_here", "_law_other", "_law_again", "_law_found", "_law_due", "_law_count"] ["_law_script"] (defScope l_law_s) := ⟨rfl, rfl, rfl, by decide +kernel, rfl, by decide +kernel, by decide +kernel⟩
/-- the law: a list of ints is answered True -/
def spLaw (K : PySem.W.Frag) : Sp := fun vs H Q _ => ∃ (a : Addr) (ns : List Int), vs = [.ref a] ∧ SqL K H a (ns.map V.int) ∧ ∀ H', Q (.bl true) H'
theorem l_law_ok {l_law_f : Addr} {l_law_fd : FuncData} (T : Bltn mg) (l_law_D : Dfn K mg "law" "law" l_law_s ["_law_script"] l_law_f l_law_fd) (C_Jobs : ClsJ K mg CJ)
    {Jobs_init_f : Addr} {Jobs_init_fd : FuncData} (Jobs_init_D : IniJ K CJ Jobs_init_s Jobs_init_f Jobs_init_fd) (Jobs_init_H : ∀ g : Gd, FnOk P w K mg base CX0 4 Jobs_init_f Jobs_init_fd ["self", "size", "jobs"] (spInit g CJ))
    {l_bag_f : Addr} {l_bag_fd : FuncData} (l_bag_D : Dfn K mg "_law_bag" "_law_bag" l_bag_s ["_law_script"] l_bag_f l_bag_fd) (l_bag_H : ∀ (sa : Addr) (ns : List Int) (tr : Prop), FnOk P w K mg base CX0 1 l_bag_f l_bag_fd ["_law_script"] (spOf (gS K sa (ns.map V.int) tr) 1 (spBag sa ns)))
    {l_alike_f : Addr} {l_alike_fd : FuncData} (l_alike_D : Dfn K mg "_law_alike" "_law_alike" l_alike_s ["_law_found", "_law_due"] l_alike_f l_alike_fd) (l_alike_H : ∀ (b c : Addr) (cs : List Int), (∀ n ∈ cs, 0 ≤ n) → FnG P w K mg base CX0 1 l_alike_f l_alike_fd ["_law_found", "_law_due"] (spOf (Bg b c cs) 2 spAlike))
    {l_beside_f : Addr} {l_beside_fd : FuncData} (l_beside_D : Dfn K mg "_law_beside" "_law_beside" l_beside_s ["_law_size", "_law_rows", "_law_wide", "_law_others"] l_beside_f l_beside_fd) (l_beside_H : ∀ (b c : Addr) (cs : List Int), (∀ n ∈ cs, 0 ≤ n) → FnOk P w K mg base CX0 1 l_beside_f l_beside_fd ["_law_size", "_law_rows", "_law_wide", "_law_others"] (spOf (Bg b c cs) 4 spBes))
    {l_jobs_f : Addr} {l_jobs_fd : FuncData} (l_jobs_D : Dfn K mg "_law_jobs" "_law_jobs" l_jobs_s ["_law_bag_here", "_law_size", "_law_most"] l_jobs_f l_jobs_fd) (l_jobs_H : ∀ (b c : Addr) (cs : List Int), (∀ n ∈ cs, 0 ≤ n) → FnOk P w K mg base CX0 4 l_jobs_f l_jobs_fd ["_law_bag_here", "_law_size", "_law_most"] (spOf (Bg b c cs) 3 (spJobs b)))
    {l_one_f : Addr} {l_one_fd : FuncData} (l_one_D : Dfn K mg "_law_one" "_law_one" l_one_s ["_law_bag_here", "_law_things"] l_one_f l_one_fd) (l_one_H : ∀ (b c : Addr) (cs : List Int), (∀ n ∈ cs, 0 ≤ n) → FnOk P w K mg base CX0 2 l_one_f l_one_fd ["_law_bag_here", "_law_things"] (spOf (Bg b c cs) 2 (spOne b)))
    {l_repeated_f : Addr} {l_repeated_fd : FuncData} (l_repeated_D : Dfn K mg "_law_repeated" "_law_repeated" l_repeated_s ["_law_size", "_law_rows", "_law_count"] l_repeated_f l_repeated_fd) (l_repeated_H : ∀ (b c : Addr) (cs : List Int), (∀ n ∈ cs, 0 ≤ n) → FnOk P w K mg base CX0 1 l_repeated_f l_repeated_fd ["_law_size", "_law_rows", "_law_count"] (spOf (Bg b c cs) 3 spRep))
    {l_sum_f : Addr} {l_sum_fd : FuncData} (l_sum_D : Dfn K mg "_law_sum" "_law_sum" l_sum_s ["_law_size", "_law_rows", "_law_wide", "_law_others"] l_sum_f l_sum_fd) (l_sum_H : ∀ (b c : Addr) (cs : List Int), (∀ n ∈ cs, 0 ≤ n) → FnOk P w K mg base CX0 1 l_sum_f l_sum_fd ["_law_size", "_law_rows", "_law_wide", "_law_others"] (spOf (Bg b c cs) 4 spSum))
    {l_take_f : Addr} {l_take_fd : FuncData} (l_take_D : Dfn K mg "_law_take" "_law_take" l_take_s ["_law_bag_here", "_law_many"] l_take_f l_take_fd) (l_take_H : ∀ (b c : Addr) (cs : List Int), (∀ n ∈ cs, 0 ≤ n) → FnOk P w K mg base CX0 1 l_take_f l_take_fd ["_law_bag_here", "_law_many"] (spOf (Bg b c cs) 2 (spTake b)))
    {l_told_f : Addr} {l_told_fd : FuncData} (l_told_D : Dfn K mg "_law_told" "_law_told" l_told_s ["_law_way", "_law_one_here", "_law_other"] l_told_f l_told_fd) (l_told_H : ∀ (b c : Addr) (cs : List Int), (∀ n ∈ cs, 0 ≤ n) → FnOk P w K mg base CX0 8 l_told_f l_told_fd ["_law_way", "_law_one_here", "_law_other"] (spOf (Bg b c cs) 3 (spToldJ CJ))) : FnG P w K mg base CX0 9 l_law_f l_law_fd ["_law_script"] (spLaw K) := by
  refine Fun.okG l_law_D.F l_law_sc (fun vs H Q E h => by obtain ⟨a, ns, rfl, _⟩ := h; rfl) (fun cdv A fr s H vs Q E gd hr h => ?_)
  obtain ⟨sa, ns, rfl, hS, hQ⟩ := h
  have l_bag_G := l_bag_H sa ns (Rd H sa (.lst (ns.map V.int)))
  have hgS := gS_of hS
  let X := (cxOf CX0 P w K mg base ["_law_script", "_law_bag_here", "_law_step", "_law_size", "_law_most", "_law_wide", "_law_rows", "_law_others", "_law_one_here", "_law_other", "_law_again", "_law_found", "_law_due", "_law_count"] "law" (defScope l_law_s) l_law_f cdv A fr s H E).nox
  obtain ⟨t1, p1, q1⟩ := (show WS (gS K sa (ns.map V.int) (Rd H sa (.lst (ns.map V.int)))) X ((defBody l_law_s).getD 0 (.Pass ⟨0, 0, 0, 0⟩)) _ from (ws_set 1 (we_call (wa_cons (we_v 0 (pv 0)) wa_nil) (fun t h => pe_call l_bag_G (hr.mono (by decide)) (by rfl) l_bag_D.m l_bag_D.F.kp l_bag_D.b .nil pass0 h)) (fun te h => ps_set (i := 1) l_law_sc.nd rfl (by first | exact Or.inl rfl | exact Or.inr rfl) h)))
  obtain ⟨t2, p2, q2⟩ := wss_ex (ι := Addr × Addr × List Int) (P := fun i => ∀ n ∈ i.2.2, 0 ≤ n) (g := fun i => Bg i.1 i.2.1 i.2.2) (X := X) (ss := (defBody l_law_s).drop 1)
    (w := fun i De st => st = .un :: .val (.rf i.1) :: List.replicate 12 .un ∧ De = ⟨fun _ => False, fun _ d => d = .bl true, fun _ => False, fun _ => False⟩) (by
    rintro ⟨b, c, cs⟩ hcs
    have l_alike_G := l_alike_H b c cs hcs
    have l_beside_G := l_beside_H b c cs hcs
    have l_jobs_G := l_jobs_H b c cs hcs
    have l_one_G := l_one_H b c cs hcs
    have l_repeated_G := l_repeated_H b c cs hcs
    have l_sum_G := l_sum_H b c cs hcs
    have l_take_G := l_take_H b c cs hcs
    have l_told_G := l_told_H b c cs hcs
    have Jobs_init_G := Jobs_init_H (Bg b c cs)
    refine WSs.imp (show WSs (Bg b c cs) X ((defBody l_law_s).drop 1) _ from (wss_cons (ws_for rfl (wi_rg1 we_int (by rfl) T.range) (wg_name 2 (pg_name l_law_sc.nd rfl (by first | exact Or.inl rfl | exact Or.inr rfl)))
    (wss_cons (ws_par false false 3 4 (by decide) (we_call (wa_cons (we_v 1 (pv 1)) (wa_cons we_int wa_nil)) (fun t h => pe_call l_take_G (hr.mono (by decide)) (by rfl) l_take_D.m l_take_D.F.kp l_take_D.b .nil pass0 h)) (we_call (wa_cons (we_v 1 (pv 1)) (wa_cons (we_lst (wa_cons we_int (wa_cons we_int (wa_cons we_int (wa_cons we_int (wa_cons we_int wa_nil)))))) wa_nil)) (fun t h => pe_call l_one_G (hr.mono (by decide)) (by rfl) l_one_D.m l_one_D.F.kp l_one_D.b .nil pass0 h)) (fun t1 t2 h1 h2 => ps_par rfl l_law_sc.nd rfl rfl (by decide) rfl rfl (pa_cons h1 (pa_cons h2 pa_nil)) (by rfl)))
    (wss_cons (ws_set 5 (we_v 3 (pv 3)) (fun te h => ps_set (i := 5) l_law_sc.nd rfl (by first | exact Or.inl rfl | exact Or.inr rfl) h))
    (wss_cons (ws_if (wt_cmp (op_eqF hr.units) s2_eqF (we_call (wa_cons (we_v 1 (pv 1)) (wa_cons we_int wa_nil)) (fun t h => pe_call l_take_G (hr.mono (by decide)) (by rfl) l_take_D.m l_take_D.F.kp l_take_D.b .nil pass0 h)).rd (we_int).rd (nomark _)) (wss_one (ws_set 5 (we_call (wa_cons (we_v 1 (pv 1)) (wa_cons we_int wa_nil)) (fun t h => pe_call l_take_G (hr.mono (by decide)) (by rfl) l_take_D.m l_take_D.F.kp l_take_D.b .nil pass0 h)) (fun te h => ps_set (i := 5) l_law_sc.nd rfl (by first | exact Or.inl rfl | exact Or.inr rfl) h))) wss_nil)
    (wss_cons (ws_par false false 6 7 (by decide) (we_call (wa_cons (we_v 1 (pv 1)) (wa_cons (we_v 3 (pv 3)) (wa_cons (we_v 4 (pv 4)) wa_nil))) (fun t h => pe_call l_jobs_G (hr.mono (by decide)) (by rfl) l_jobs_D.m l_jobs_D.F.kp l_jobs_D.b .nil pass0 h)) (we_call (wa_cons (we_v 1 (pv 1)) (wa_cons (we_v 5 (pv 5)) (wa_cons (we_call (wa_cons (we_v 1 (pv 1)) (wa_cons (we_lst (wa_cons we_int (wa_cons we_int (wa_cons we_int (wa_cons we_int wa_nil))))) wa_nil)) (fun t h => pe_call l_one_G (hr.mono (by decide)) (by rfl) l_one_D.m l_one_D.F.kp l_one_D.b .nil pass0 h)) wa_nil))) (fun t h => pe_call l_jobs_G (hr.mono (by decide)) (by rfl) l_jobs_D.m l_jobs_D.F.kp l_jobs_D.b .nil pass0 h)) (fun t1 t2 h1 h2 => ps_par rfl l_law_sc.nd rfl rfl (by decide) rfl rfl (pa_cons h1 (pa_cons h2 pa_nil)) (by rfl)))
    (wss_cons (ws_par false false 8 9 (by decide) (make_J (war_cons (wr_v 3 (pv 3)) (war_cons (we_cb (war_cons (wr_v 6 (pv 6)) war_nil) sc_list (fun t h => pe_callTy call_list_of (by rfl) T.list (by decide +kernel) h)).rd war_nil)) C_Jobs (fun t h => pe_make Jobs_init_D.made Jobs_init_G (hr.mono (by decide)) (by rfl) C_Jobs.mg Jobs_init_D.b .nil pass0 h)) (make_J (war_cons (wr_v 5 (pv 5)) (war_cons (we_cb (war_cons (wr_v 7 (pv 7)) war_nil) sc_list (fun t h => pe_callTy call_list_of (by rfl) T.list (by decide +kernel) h)).rd war_nil)) C_Jobs (fun t h => pe_make Jobs_init_D.made Jobs_init_G (hr.mono (by decide)) (by rfl) C_Jobs.mg Jobs_init_D.b .nil pass0 h)) (fun t1 t2 h1 h2 => ps_par rfl l_law_sc.nd rfl rfl (by decide) rfl rfl (pa_cons h1 (pa_cons h2 pa_nil)) (by rfl)))
    (wss_one (ws_for rfl (wi_rg1 we_int (by rfl) T.range) (wg_name 10 (pg_name l_law_sc.nd rfl (by first | exact Or.inl rfl | exact Or.inr rfl)))
    (wss_cons (ws_set 11 (we_lst (wa_cons (we_call (wa_cons we_int (wa_cons (we_v 8 (pv 8)) (wa_cons (we_v 9 (pv 9)) wa_nil))) (fun t h => pe_call l_told_G (hr.mono (by decide)) (by rfl) l_told_D.m l_told_D.F.kp l_told_D.b .nil pass0 h)) (wa_cons (we_call (wa_cons we_int (wa_cons (we_v 9 (pv 9)) (wa_cons (we_v 8 (pv 8)) wa_nil))) (fun t h => pe_call l_told_G (hr.mono (by decide)) (by rfl) l_told_D.m l_told_D.F.kp l_told_D.b .nil pass0 h)) wa_nil))) (fun te h => ps_set (i := 11) l_law_sc.nd rfl (by first | exact Or.inl rfl | exact Or.inr rfl) h))
    (wss_cons (ws_set 12 (we_lst (wa_cons (we_call (wa_cons (we_v 3 (pv 3)) (wa_cons (we_v 6 (pv 6)) (wa_cons (we_v 5 (pv 5)) (wa_cons (we_v 7 (pv 7)) wa_nil)))) (fun t h => pe_call l_sum_G (hr.mono (by decide)) (by rfl) l_sum_D.m l_sum_D.F.kp l_sum_D.b .nil pass0 h)) (wa_cons (we_call (wa_cons (we_v 5 (pv 5)) (wa_cons (we_v 7 (pv 7)) (wa_cons (we_v 3 (pv 3)) (wa_cons (we_v 6 (pv 6)) wa_nil)))) (fun t h => pe_call l_sum_G (hr.mono (by decide)) (by rfl) l_sum_D.m l_sum_D.F.kp l_sum_D.b .nil pass0 h)) wa_nil))) (fun te h => ps_set (i := 12) l_law_sc.nd rfl (by first | exact Or.inl rfl | exact Or.inr rfl) h))
    (wss_cons (ws_if (wt_not (wt_val (we_call (wa_cons (we_v 11 (pv 11)) (wa_cons (we_v 12 (pv 12)) wa_nil)) (fun t h => pe_callG l_alike_G gd (hr.mono (by decide)) (by rfl) l_alike_D.m l_alike_D.F.kp l_alike_D.b .nil pass0 h)))) (wss_one (ws_ret we_bl)) wss_nil)
    (wss_cons (ws_set 11 (we_lst (wa_cons (we_call (wa_cons we_int (wa_cons (we_v 8 (pv 8)) (wa_cons (we_v 9 (pv 9)) wa_nil))) (fun t h => pe_call l_told_G (hr.mono (by decide)) (by rfl) l_told_D.m l_told_D.F.kp l_told_D.b .nil pass0 h)) (wa_cons (we_call (wa_cons we_int (wa_cons (we_v 9 (pv 9)) (wa_cons (we_v 8 (pv 8)) wa_nil))) (fun t h => pe_call l_told_G (hr.mono (by decide)) (by rfl) l_told_D.m l_told_D.F.kp l_told_D.b .nil pass0 h)) wa_nil))) (fun te h => ps_set (i := 11) l_law_sc.nd rfl (by first | exact Or.inl rfl | exact Or.inr rfl) h))
    (wss_cons (ws_set 12 (we_lst (wa_cons (we_call (wa_cons (we_v 3 (pv 3)) (wa_cons (we_v 6 (pv 6)) (wa_cons (we_v 5 (pv 5)) (wa_cons (we_v 7 (pv 7)) wa_nil)))) (fun t h => pe_call l_beside_G (hr.mono (by decide)) (by rfl) l_beside_D.m l_beside_D.F.kp l_beside_D.b .nil pass0 h)) (wa_cons (we_call (wa_cons (we_v 5 (pv 5)) (wa_cons (we_v 7 (pv 7)) (wa_cons (we_v 3 (pv 3)) (wa_cons (we_v 6 (pv 6)) wa_nil)))) (fun t h => pe_call l_beside_G (hr.mono (by decide)) (by rfl) l_beside_D.m l_beside_D.F.kp l_beside_D.b .nil pass0 h)) wa_nil))) (fun te h => ps_set (i := 12) l_law_sc.nd rfl (by first | exact Or.inl rfl | exact Or.inr rfl) h))
    (wss_cons (ws_if (wt_not (wt_val (we_call (wa_cons (we_v 11 (pv 11)) (wa_cons (we_v 12 (pv 12)) wa_nil)) (fun t h => pe_callG l_alike_G gd (hr.mono (by decide)) (by rfl) l_alike_D.m l_alike_D.F.kp l_alike_D.b .nil pass0 h)))) (wss_one (ws_ret we_bl)) wss_nil)
    (wss_cons (ws_set 13 (we_call (wa_cons (we_v 1 (pv 1)) (wa_cons (we_lst (wa_cons we_int (wa_cons we_int (wa_cons we_int (wa_cons we_int (wa_cons we_int (wa_cons we_int (wa_cons we_int (wa_cons we_int (wa_cons (we_call (wa_cons (we_v 1 (pv 1)) (wa_cons we_int wa_nil)) (fun t h => pe_call l_take_G (hr.mono (by decide)) (by rfl) l_take_D.m l_take_D.F.kp l_take_D.b .nil pass0 h)) wa_nil)))))))))) wa_nil)) (fun t h => pe_call l_one_G (hr.mono (by decide)) (by rfl) l_one_D.m l_one_D.F.kp l_one_D.b .nil pass0 h)) (fun te h => ps_set (i := 13) l_law_sc.nd rfl (by first | exact Or.inl rfl | exact Or.inr rfl) h))
    (wss_cons (ws_set 11 (we_lst (wa_cons (we_call (wa_cons we_int (wa_cons (we_v 8 (pv 8)) (wa_cons (we_v 13 (pv 13)) wa_nil))) (fun t h => pe_call l_told_G (hr.mono (by decide)) (by rfl) l_told_D.m l_told_D.F.kp l_told_D.b .nil pass0 h)) (wa_cons (we_call (wa_cons we_int (wa_cons (we_v 13 (pv 13)) (wa_cons (we_v 8 (pv 8)) wa_nil))) (fun t h => pe_call l_told_G (hr.mono (by decide)) (by rfl) l_told_D.m l_told_D.F.kp l_told_D.b .nil pass0 h)) wa_nil))) (fun te h => ps_set (i := 11) l_law_sc.nd rfl (by first | exact Or.inl rfl | exact Or.inr rfl) h))
    (wss_cons (ws_if (wt_not (wt_val (we_call (wa_cons (we_v 11 (pv 11)) (wa_cons (we_bin op_mulB s2_mulB (we_lst (wa_cons (we_call (wa_cons (we_v 3 (pv 3)) (wa_cons (we_v 6 (pv 6)) (wa_cons (we_v 13 (pv 13)) wa_nil))) (fun t h => pe_call l_repeated_G (hr.mono (by decide)) (by rfl) l_repeated_D.m l_repeated_D.F.kp l_repeated_D.b .nil pass0 h)) wa_nil)).rd (we_int).rd) wa_nil)) (fun t h => pe_callG l_alike_G gd (hr.mono (by decide)) (by rfl) l_alike_D.m l_alike_D.F.kp l_alike_D.b .nil pass0 h)))) (wss_one (ws_ret we_bl)) wss_nil)
    (wss_cons (ws_par false false 11 12 (by decide) (we_lst (wa_cons (we_call (wa_cons we_int (wa_cons (we_v 8 (pv 8)) (wa_cons (we_v 8 (pv 8)) wa_nil))) (fun t h => pe_call l_told_G (hr.mono (by decide)) (by rfl) l_told_D.m l_told_D.F.kp l_told_D.b .nil pass0 h)) (wa_cons (we_call (wa_cons we_int (wa_cons (we_v 8 (pv 8)) (wa_cons (we_v 8 (pv 8)) wa_nil))) (fun t h => pe_call l_told_G (hr.mono (by decide)) (by rfl) l_told_D.m l_told_D.F.kp l_told_D.b .nil pass0 h)) wa_nil))) (we_lst (wa_cons (we_call (wa_cons (we_v 3 (pv 3)) (wa_cons (we_v 6 (pv 6)) (wa_cons (we_v 3 (pv 3)) (wa_cons (we_v 6 (pv 6)) wa_nil)))) (fun t h => pe_call l_sum_G (hr.mono (by decide)) (by rfl) l_sum_D.m l_sum_D.F.kp l_sum_D.b .nil pass0 h)) wa_nil)) (fun t1 t2 h1 h2 => ps_par rfl l_law_sc.nd rfl rfl (by decide) rfl rfl (pa_cons h1 (pa_cons h2 pa_nil)) (by rfl)))
    (wss_cons (ws_if (wt_not (wt_val (we_call (wa_cons (we_v 11 (pv 11)) (wa_cons (we_bin op_addA s2_add (wr_v 12 (pv 12)) (we_lst (wa_cons (we_call (wa_cons (we_v 3 (pv 3)) (wa_cons (we_v 6 (pv 6)) (wa_cons (we_v 3 (pv 3)) (wa_cons (we_v 6 (pv 6)) wa_nil)))) (fun t h => pe_call l_beside_G (hr.mono (by decide)) (by rfl) l_beside_D.m l_beside_D.F.kp l_beside_D.b .nil pass0 h)) wa_nil)).rd) wa_nil)) (fun t h => pe_callG l_alike_G gd (hr.mono (by decide)) (by rfl) l_alike_D.m l_alike_D.F.kp l_alike_D.b .nil pass0 h)))) (wss_one (ws_ret we_bl)) wss_nil)
    (wss_one (ws_if (wt_not (wt_val (we_call (wa_cons (we_tup (wa_cons (we_fld (wr_v 8 (pv 8)) C_Jobs.cl C_Jobs.n_size) (wa_cons (we_fld (wr_v 8 (pv 8)) C_Jobs.cl C_Jobs.n_jobs) (wa_cons (we_fld (wr_v 9 (pv 9)) C_Jobs.cl C_Jobs.n_size) (wa_cons (we_fld (wr_v 9 (pv 9)) C_Jobs.cl C_Jobs.n_jobs) wa_nil))))) (wa_cons (we_tup (wa_cons (we_v 3 (pv 3)) (wa_cons (we_cb (war_cons (wr_v 6 (pv 6)) war_nil) sc_tuple (fun t h => pe_callTy call_tuple_of (by rfl) T.tuple (by decide +kernel) h)) (wa_cons (we_v 5 (pv 5)) (wa_cons (we_cb (war_cons (wr_v 7 (pv 7)) war_nil) sc_tuple (fun t h => pe_callTy call_tuple_of (by rfl) T.tuple (by decide +kernel) h)) wa_nil))))) wa_nil)) (fun t h => pe_callG l_alike_G gd (hr.mono (by decide)) (by rfl) l_alike_D.m l_alike_D.F.kp l_alike_D.b .nil pass0 h)))) (wss_one (ws_ret we_bl)) wss_nil)))))))))))))))))))))
    (wss_one (ws_ret we_bl)))) ?_
    rintro De st ⟨rfl, rfl⟩
    walk_at "dw"
    refine ⟨rg62_nat (by decide) (by decide), ?_⟩
    refine wFor_inv (fun _ st => ∃ s2 s3 s4 s5 s6 s7 s8 s9 s10 s11 s12 s13, st = [.un, .val (.rf b), s2, s3, s4, s5, s6, s7, s8, s9, s10, s11, s12, s13]) (fun _ _ _ => trivial) _ 0 _ ⟨_, _, _, _, _, _, _, _, _, _, _, _, rfl⟩ ?_ (fun st _ => trivial)
    rintro i d hi st ⟨s2, s3, s4, s5, s6, s7, s8, s9, s10, s11, s12, s13, rfl⟩ K hK
    walk_at "dw"
    refine ⟨8, rfl, by decide, by decide, fun n n0 n8 => ?_⟩
    refine ⟨le_line (by decide), _, rfl, by simp, by decide, fun x hx => ?_⟩
    obtain ⟨mo, rfl, m0, m7⟩ : ∃ mo : Int, x = .int mo ∧ 0 ≤ mo ∧ mo ≤ 7 := by
      simp only [List.mem_cons, List.not_mem_nil, or_false] at hx
      rcases hx with rfl | rfl | rfl | rfl | rfl <;> exact ⟨_, rfl, by decide, by decide⟩
    refine ⟨2, rfl, by decide, by decide, fun q _ _ => eq_int ⟨_, rfl, ?_⟩⟩
    refine if_both n0 n8 fun m h0 h8 => ?_
    refine ⟨n, mo, rfl, n0, by omega, m0, m7, fun rows hrl hgp => ?_⟩
    have hg : good n rows := ⟨n0, by omega, by omega, hgp⟩
    refine ⟨le_line (by decide), _, rfl, by simp, by decide, fun x hx => ?_⟩
    obtain ⟨mp, rfl, p0, p7⟩ : ∃ mo : Int, x = .int mo ∧ 0 ≤ mo ∧ mo ≤ 7 := by
      simp only [List.mem_cons, List.not_mem_nil, or_false] at hx
      rcases hx with rfl | rfl | rfl | rfl <;> exact ⟨_, rfl, by decide, by decide⟩
    refine ⟨m, mp, rfl, h0, by omega, p0, p7, fun os hol hgq => ?_⟩
    have hg' : good m os := ⟨h0, by omega, by omega, hgq⟩
    refine list_lT ⟨n, rows, .inl rfl, hg, list_lT ⟨m, os, .inl rfl, hg', rg62_nat (by decide) (by decide), ?_⟩⟩
    refine wFor_inv (fun _ st => ∃ s10 s11 s12 s13, st = [.un, .val (.rf b), .val d, .val (.int n), .val (.int mo), .val (.int m), .val (lT rows), .val (lT os), .val (jO CJ n rows), .val (jO CJ m os), s10, s11, s12, s13]) (fun _ _ _ => trivial) _ 0 _ ⟨_, _, _, _, rfl⟩ ?_ (fun st h => by obtain ⟨_, _, _, _, rfl⟩ := h; exact hK _ ⟨_, _, _, _, _, _, _, _, _, _, _, _, rfl⟩)
    rintro j dj hj st ⟨s10, s11, s12, s13, rfl⟩ K2 hK2
    walk_at "dw"
    refine .inl ⟨n, rows, m, os, rfl, hg, hg', ?_⟩
    refine .inl ⟨m, os, n, rows, rfl, hg', hg, ?_⟩
    refine ⟨le_line (by decide), n, rows, m, os, rfl, hg, hg', m, os, n, rows, rfl, hg', hg, le_line (by decide), _, rfl, (sh_lst (shs_cons (sh_sum hg hg') (shs_cons (sh_sum hg' hg) shs_nil))).shw, _, rfl, ?_⟩
    rw [if_neg (by simp)]
    refine .inr (.inl ⟨n, rows, m, os, rfl, hg, hg', ?_⟩)
    refine .inr (.inl ⟨m, os, n, rows, rfl, hg', hg, ?_⟩)
    refine ⟨le_line (by decide), n, rows, m, os, rfl, hg, hg', m, os, n, rows, rfl, hg', hg, le_line (by decide), _, rfl, (sh_lst (shs_cons (sh_bes hg hg') (shs_cons (sh_bes hg' hg) shs_nil))).shw, _, rfl, ?_⟩
    rw [if_neg (by simp)]
    refine ⟨1001, rfl, by decide, by decide, fun q q0 q1 => ⟨le_line (by decide), _, rfl, by simp, by simp, fun x hx => ?_⟩⟩
    obtain ⟨k, rfl, k0, k1⟩ : ∃ k : Int, x = .int k ∧ 0 ≤ k ∧ k ≤ 1000 := by
      simp only [List.mem_cons, List.not_mem_nil, or_false] at hx
      rcases hx with rfl | rfl | rfl | rfl | rfl | rfl | rfl | rfl | rfl <;> exact ⟨_, rfl, by omega, by omega⟩
    refine .inr (.inr ⟨n, rows, k, .inl rfl, hg, k0, k1, ?_⟩)
    refine .inr (.inr ⟨n, rows, k, .inr rfl, hg, k0, k1, ?_⟩)
    refine ⟨le_line (by decide), n, rows, k, rfl, hg, k0, k1, le_line (by decide), mulB_l (by decide) (by decide) (by simp) ?_⟩
    refine ⟨_, rfl, (sh_lst (shs_cons (sh_rep hg k0) (shs_cons (sh_rep hg k0) shs_nil))).shw, _, rfl, ?_⟩
    rw [if_neg (by simp)]
    refine .inl ⟨n, rows, n, rows, rfl, hg, hg, ?_⟩
    refine .inr (.inl ⟨n, rows, n, rows, rfl, hg, hg, ?_⟩)
    refine ⟨le_line (by decide), n, rows, n, rows, rfl, hg, hg, le_line (by decide), n, rows, n, rows, rfl, hg, hg, le_line (by decide), le_line (by decide), ?_⟩
    refine ⟨_, rfl, (sh_lst (shs_cons (sh_sum hg hg) (shs_cons (sh_bes hg hg) shs_nil))).shw, _, rfl, ?_⟩
    rw [if_neg (by simp)]
    refine fld_size (fld_jobs (fld_size (fld_jobs ⟨le_line (by decide), tup_lT (tup_lT ⟨le_line (by decide), _, rfl, (sh_tup (shs_cons (small_int (x := n) (n := 1000) ⟨n0, by omega⟩ (by decide)) (shs_cons (sh_tT hg) (shs_cons (small_int (x := m) (n := 1000) ⟨h0, by omega⟩ (by decide)) (shs_cons (sh_tT hg') shs_nil))))).shw, _, rfl, ?_⟩)⟩)))
    rw [if_neg (by simp)]
    exact hK2 _ ⟨_, _, _, _, rfl⟩
    )
  refine ⟨_, pss_cons p1 p2, ?_⟩
  refine q1 (fun b => Rd H sa (.lst (ns.map V.int)) ∧ b = sa) (fun _ => False) (fun _ _ => False) H (fun _ => 0) _ (startS ["_law_script", "_law_bag_here", "_law_step", "_law_size", "_law_most", "_law_wide", "_law_rows", "_law_others", "_law_one_here", "_law_other", "_law_again", "_law_found", "_law_due", "_law_count"] [.rf sa]) H _ ⟨fun st => st[1]? = some (.val (.lst [.int 0, .int 987654321, .int 0, lI (absI ns)])) ∧ st.length = 14, fun _ _ => False, fun _ => False, fun _ => False⟩ hgS ⟨fun a h => h, (gS K sa (ns.map V.int) _).tr H hgS⟩ (start_rel (N := ["_law_script", "_law_bag_here", "_law_step", "_law_size", "_law_most", "_law_wide", "_law_rows", "_law_others", "_law_one_here", "_law_other", "_law_again", "_law_found", "_law_due", "_law_count"]) hgS (.cons (.rf sa) .nil)) ?_ ⟨?_, fun _ _ _ _ _ _ z => z.elim, fun _ _ _ _ _ z => z.elim, fun _ _ _ _ _ z => z.elim⟩
  · exact ⟨rfl, rfl, rfl, rfl⟩
  rintro o σ st H1 R1 ⟨e1, e2⟩
  obtain ⟨v, ev, dv⟩ := R1.val 1 _ e1
  obtain ⟨b, c, rfl, hb⟩ := bag_at dv
  have hlen : σ.length = 12 + 2 := R1.len.trans e2
  have hgB : (Bg b c (absI ns)).G H1 := hb
  refine q2 (b, c, absI ns) (absI_pos ns) (Bg b c (absI ns)).T (fun _ => False) (fun _ _ => False) H1 (fun _ => 0) σ _ H1 _ ⟨fun _ => False, fun _ d => d = .bl true, fun _ => False, fun _ => False⟩ hgB ⟨fun a h => h, (Bg b c (absI ns)).tr H1 hgB⟩ (rel_two hgB hlen ev) ?_ ⟨fun _ _ _ _ _ z => z.elim, fun fr d v H' k r z => ?_, fun _ _ _ _ _ z => z.elim, fun _ _ _ _ _ z => z.elim⟩
  · exact ⟨rfl, rfl⟩
  · subst z
    have r := r.dr
    cases r
    exact hQ H'
end
end K17
namespace K17
open PySem PySem.Spec PyProof.Rows L2 DW
theorem kit_tt {K : PySem.W.Frag} {A : Addr} : PySem.W.kitOne K (.ref A) (.ref A) = some true := by simp [PySem.W.kitOne]
theorem kit_ff {K : PySem.W.Frag} {A B : Addr} (h : PySem.W.subIn K (.ref A) (.ref B) = some false) (hs : PySem.W.subIn K (.ref A) (.ref A) = some true) (hc : PySem.W.isClsIn K B = true) (ht : PySem.W.typeIn K (.ref B) = some (.type "type")) : PySem.W.kitOne K (.ref A) (.ref B) = some false := by
  have ne : A ≠ B := fun e => by
    subst e
    rw [h] at hs
    cases hs
  unfold PySem.W.kitOne
  rw [if_neg (fun e => ne (by have := beq_iff_eq.mp e; injection this))]
  unfold PySem.W.kitCls
  have e2 : ((PySem.W.clsIn K B).isSome && PySem.W.typeIn K (.ref B) == some (.type "type")) = true := by
    have h2' : (PySem.W.clsIn K B).isSome = true := hc
    rw [h2', ht] <;> rfl
  show (if ((PySem.W.clsIn K B).isSome && PySem.W.typeIn K (.ref B) == some (.type "type")) = true then PySem.W.subIn K (.ref A) (.ref B) else none) = some false
  rw [if_pos e2]
  exact h
theorem exm_ref2 {K : PySem.W.Frag} {C : Addr} {cls : Value} {b : Bool} (h1 : PySem.W.subIn K (.ref C) (.type "BaseException") = some true) (hd : PySem.W.hasDictIn K C = true) (ht : PySem.W.typeIn K (.ref C) = some (.type "type")) (h4 : PySem.W.subIn K cls (.ref C) = some b) : PySem.W.exmOne K cls (.ref C) = some b := PySem.W.exm_ref h1 hd ht h4
theorem all_mk {l : PySem.W.OpenLaw} {w : World} {K : PySem.W.Frag} {h : Heap} {mg : Str → Option Value} {fa CJ : Addr} (X : K.In h) (G : h.Ns mainGlobals mg) (hfa : mg "law" = some (.ref fa))
    {f1 f2 f3 f4 f5 f6 f7 f8 f9 f10 f11 f12 f13 f14 f15 f16 f17 f18 f19 f20 f21 f22 f23 : Addr} {od1 od2 od3 od4 od5 od6 od7 od8 od9 od10 od11 od12 od13 od14 od15 od16 od17 od18 od19 od20 od21 od22 od23 : Option Addr} {an1 an2 an3 an4 an5 an6 an7 an8 an9 an10 an11 an12 an13 an14 an15 an16 an17 an18 an19 an20 an21 an22 an23 : Option Addr} {sl1 sl2 sl3 sl4 sl5 sl6 sl7 sl8 sl9 sl10 sl11 sl12 sl13 sl14 sl15 sl16 sl17 sl18 sl19 sl20 sl21 sl22 sl23 : Array (Option Value)}
    {oc1 oc2 oc3 oc4 oc5 oc6 oc7 oc8 oc9 oc10 oc11 oc12 oc13 oc14 oc15 oc16 oc17 oc18 oc19 oc20 oc21 oc22 oc23 kV1 kV2 kV3 kV4 kV5 kV6 kV7 kV8 kV9 kV10 kV11 kV12 kV13 kV14 kV15 kV16 kV17 kV18 kV19 kV20 kV21 kV22 kV23 dc1 dc2 dc3 dc4 dc5 dc6 dc7 dc8 dc9 dc10 dc11 dc12 dc13 dc14 dc15 dc16 dc17 dc18 dc19 dc20 dc21 dc22 dc23 pm1 pm2 pm3 pm4 pm5 pm6 pm7 pm8 pm9 pm10 pm11 pm12 pm13 pm14 pm15 pm16 pm17 pm18 pm19 pm20 pm21 pm22 pm23 cd1 cd2 cd3 cd4 cd5 cd6 cd7 cd8 cd9 cd10 cd11 cd12 cd13 cd14 cd15 cd16 cd17 cd18 cd19 cd20 cd21 cd22 cd23 ct1 ct2 ct3 ct4 ct5 ct6 ct7 ct8 ct9 ct10 ct11 ct12 ct13 ct14 ct15 ct16 ct17 ct18 ct19 ct20 ct21 ct22 ct23 : Value} {tL : Tok} {cT cU cE cW cN fT NT : Addr} {nmT qT : Str} {bsT : List Value} {snT : List Str} {subT : List Value} {abT : Bool} {colT : Option Bool} {ddT : Option Addr} {mT0 mT1 mT2 mT3 mT5 : Option Value} {odT anT : Option Addr} {slT : Array (Option Value)} {ocT dcT pmT cdT ctT : Value} {pT1 pT2 qT1 qT2 qT3 qT4 : Pos}
    (aC : PySem.W.nsIn K mainGlobals "Jobs" = some (some (.ref CJ)))
    (a1 : PySem.W.nsIn K mainGlobals "is_integer" = some (some (.ref f1)))
    (l1 : K.lookup f1 = some ⟨oc1, od1, .func (PySem.W.fnOf "is_integer" "is_integer" (defArgs is_integer_s) (defBody is_integer_s) (defScope is_integer_s) .none kV1 dc1 pm1 an1 cd1 ct1), sl1⟩)
    (c1 : PySem.W.codeIn K cd1 "is_integer" = true)
    (k1 : PySem.W.keepIn K (.ref f1) = true)
    (a2 : PySem.W.nsIn K mainGlobals "is_group" = some (some (.ref f2)))
    (l2 : K.lookup f2 = some ⟨oc2, od2, .func (PySem.W.fnOf "is_group" "is_group" (defArgs is_group_s) (defBody is_group_s) (defScope is_group_s) .none kV2 dc2 pm2 an2 cd2 ct2), sl2⟩)
    (c2 : PySem.W.codeIn K cd2 "is_group" = true)
    (k2 : PySem.W.keepIn K (.ref f2) = true)
    (a3 : PySem.W.nsIn K mainGlobals "is_count" = some (some (.ref f3)))
    (l3 : K.lookup f3 = some ⟨oc3, od3, .func (PySem.W.fnOf "is_count" "is_count" (defArgs is_count_s) (defBody is_count_s) (defScope is_count_s) .none kV3 dc3 pm3 an3 cd3 ct3), sl3⟩)
    (c3 : PySem.W.codeIn K cd3 "is_count" = true)
    (k3 : PySem.W.keepIn K (.ref f3) = true)
    (a4 : PySem.W.nsIn K mainGlobals "is_row" = some (some (.ref f4)))
    (l4 : K.lookup f4 = some ⟨oc4, od4, .func (PySem.W.fnOf "is_row" "is_row" (defArgs is_row_s) (defBody is_row_s) (defScope is_row_s) .none kV4 dc4 pm4 an4 cd4 ct4), sl4⟩)
    (c4 : PySem.W.codeIn K cd4 "is_row" = true)
    (k4 : PySem.W.keepIn K (.ref f4) = true)
    (a5 : PySem.W.nsIn K mainGlobals "check_jobs" = some (some (.ref f5)))
    (l5 : K.lookup f5 = some ⟨oc5, od5, .func (PySem.W.fnOf "check_jobs" "check_jobs" (defArgs check_jobs_s) (defBody check_jobs_s) (defScope check_jobs_s) .none kV5 dc5 pm5 an5 cd5 ct5), sl5⟩)
    (c5 : PySem.W.codeIn K cd5 "check_jobs" = true)
    (k5 : PySem.W.keepIn K (.ref f5) = true)
    (a6 : PySem.W.findIn K (.ref CJ) "__init__" = some (some (.ref f6)))
    (i6 : PySem.W.isFn K (.ref f6) = true)
    (l6 : K.lookup f6 = some ⟨oc6, od6, .func (PySem.W.fnOf "__init__" "Jobs.__init__" (defArgs Jobs_init_s) (defBody Jobs_init_s) (defScope Jobs_init_s) .none kV6 dc6 pm6 an6 cd6 ct6), sl6⟩)
    (c6 : PySem.W.codeIn K cd6 "Jobs.__init__" = true)
    (k6 : PySem.W.keepIn K (.ref f6) = true)
    (a7 : PySem.W.nsIn K mainGlobals "_law_bag" = some (some (.ref f7)))
    (l7 : K.lookup f7 = some ⟨oc7, od7, .func (PySem.W.fnOf "_law_bag" "_law_bag" (defArgs l_bag_s) (defBody l_bag_s) (defScope l_bag_s) .none kV7 dc7 pm7 an7 cd7 ct7), sl7⟩)
    (c7 : PySem.W.codeIn K cd7 "_law_bag" = true)
    (k7 : PySem.W.keepIn K (.ref f7) = true)
    (a8 : PySem.W.nsIn K mainGlobals "_law_take" = some (some (.ref f8)))
    (l8 : K.lookup f8 = some ⟨oc8, od8, .func (PySem.W.fnOf "_law_take" "_law_take" (defArgs l_take_s) (defBody l_take_s) (defScope l_take_s) .none kV8 dc8 pm8 an8 cd8 ct8), sl8⟩)
    (c8 : PySem.W.codeIn K cd8 "_law_take" = true)
    (k8 : PySem.W.keepIn K (.ref f8) = true)
    (a9 : PySem.W.nsIn K mainGlobals "_law_one" = some (some (.ref f9)))
    (l9 : K.lookup f9 = some ⟨oc9, od9, .func (PySem.W.fnOf "_law_one" "_law_one" (defArgs l_one_s) (defBody l_one_s) (defScope l_one_s) .none kV9 dc9 pm9 an9 cd9 ct9), sl9⟩)
    (c9 : PySem.W.codeIn K cd9 "_law_one" = true)
    (k9 : PySem.W.keepIn K (.ref f9) = true)
    (a10 : PySem.W.nsIn K mainGlobals "_law_alike" = some (some (.ref f10)))
    (l10 : K.lookup f10 = some ⟨oc10, od10, .func (PySem.W.fnOf "_law_alike" "_law_alike" (defArgs l_alike_s) (defBody l_alike_s) (defScope l_alike_s) .none kV10 dc10 pm10 an10 cd10 ct10), sl10⟩)
    (c10 : PySem.W.codeIn K cd10 "_law_alike" = true)
    (k10 : PySem.W.keepIn K (.ref f10) = true)
    (a11 : PySem.W.nsIn K mainGlobals "_law_some" = some (some (.ref f11)))
    (l11 : K.lookup f11 = some ⟨oc11, od11, .func (PySem.W.fnOf "_law_some" "_law_some" (defArgs l_some_s) (defBody l_some_s) (defScope l_some_s) .none kV11 dc11 pm11 an11 cd11 ct11), sl11⟩)
    (c11 : PySem.W.codeIn K cd11 "_law_some" = true)
    (k11 : PySem.W.keepIn K (.ref f11) = true)
    (a12 : PySem.W.nsIn K mainGlobals "_law_job" = some (some (.ref f12)))
    (l12 : K.lookup f12 = some ⟨oc12, od12, .func (PySem.W.fnOf "_law_job" "_law_job" (defArgs l_job_s) (defBody l_job_s) (defScope l_job_s) .none kV12 dc12 pm12 an12 cd12 ct12), sl12⟩)
    (c12 : PySem.W.codeIn K cd12 "_law_job" = true)
    (k12 : PySem.W.keepIn K (.ref f12) = true)
    (a13 : PySem.W.nsIn K mainGlobals "_law_jobs" = some (some (.ref f13)))
    (l13 : K.lookup f13 = some ⟨oc13, od13, .func (PySem.W.fnOf "_law_jobs" "_law_jobs" (defArgs l_jobs_s) (defBody l_jobs_s) (defScope l_jobs_s) .none kV13 dc13 pm13 an13 cd13 ct13), sl13⟩)
    (c13 : PySem.W.codeIn K cd13 "_law_jobs" = true)
    (k13 : PySem.W.keepIn K (.ref f13) = true)
    (a14 : PySem.W.nsIn K mainGlobals "shifted" = some (some (.ref f14)))
    (l14 : K.lookup f14 = some ⟨oc14, od14, .func (PySem.W.fnOf "shifted" "shifted" (defArgs shifted_s) (defBody shifted_s) (defScope shifted_s) .none kV14 dc14 pm14 an14 cd14 ct14), sl14⟩)
    (c14 : PySem.W.codeIn K cd14 "shifted" = true)
    (k14 : PySem.W.keepIn K (.ref f14) = true)
    (a15 : PySem.W.findIn K (.ref CJ) "__add__" = some (some (.ref f15)))
    (i15 : PySem.W.isFn K (.ref f15) = true)
    (l15 : K.lookup f15 = some ⟨oc15, od15, .func (PySem.W.fnOf "__add__" "Jobs.__add__" (defArgs Jobs___add___s) (defBody Jobs___add___s) (defScope Jobs___add___s) .none kV15 dc15 pm15 an15 cd15 ct15), sl15⟩)
    (c15 : PySem.W.codeIn K cd15 "Jobs.__add__" = true)
    (k15 : PySem.W.keepIn K (.ref f15) = true)
    (a16 : PySem.W.findIn K (.ref CJ) "__or__" = some (some (.ref f16)))
    (i16 : PySem.W.isFn K (.ref f16) = true)
    (l16 : K.lookup f16 = some ⟨oc16, od16, .func (PySem.W.fnOf "__or__" "Jobs.__or__" (defArgs Jobs___or___s) (defBody Jobs___or___s) (defScope Jobs___or___s) .none kV16 dc16 pm16 an16 cd16 ct16), sl16⟩)
    (c16 : PySem.W.codeIn K cd16 "Jobs.__or__" = true)
    (k16 : PySem.W.keepIn K (.ref f16) = true)
    (a17 : PySem.W.findIn K (.ref CJ) "__mul__" = some (some (.ref f17)))
    (i17 : PySem.W.isFn K (.ref f17) = true)
    (l17 : K.lookup f17 = some ⟨oc17, od17, .func (PySem.W.fnOf "__mul__" "Jobs.__mul__" (defArgs Jobs___mul___s) (defBody Jobs___mul___s) (defScope Jobs___mul___s) .none kV17 dc17 pm17 an17 cd17 ct17), sl17⟩)
    (c17 : PySem.W.codeIn K cd17 "Jobs.__mul__" = true)
    (k17 : PySem.W.keepIn K (.ref f17) = true)
    (a18 : PySem.W.findIn K (.ref CJ) "__rmul__" = some (some (.ref f18)))
    (i18 : PySem.W.isFn K (.ref f18) = true)
    (l18 : K.lookup f18 = some ⟨oc18, od18, .func (PySem.W.fnOf "__rmul__" "Jobs.__rmul__" (defArgs Jobs___rmul___s) (defBody Jobs___rmul___s) (defScope Jobs___rmul___s) .none kV18 dc18 pm18 an18 cd18 ct18), sl18⟩)
    (c18 : PySem.W.codeIn K cd18 "Jobs.__rmul__" = true)
    (k18 : PySem.W.keepIn K (.ref f18) = true)
    (a19 : PySem.W.nsIn K mainGlobals "_law_repeated" = some (some (.ref f19)))
    (l19 : K.lookup f19 = some ⟨oc19, od19, .func (PySem.W.fnOf "_law_repeated" "_law_repeated" (defArgs l_repeated_s) (defBody l_repeated_s) (defScope l_repeated_s) .none kV19 dc19 pm19 an19 cd19 ct19), sl19⟩)
    (c19 : PySem.W.codeIn K cd19 "_law_repeated" = true)
    (k19 : PySem.W.keepIn K (.ref f19) = true)
    (a20 : PySem.W.nsIn K mainGlobals "_law_sum" = some (some (.ref f20)))
    (l20 : K.lookup f20 = some ⟨oc20, od20, .func (PySem.W.fnOf "_law_sum" "_law_sum" (defArgs l_sum_s) (defBody l_sum_s) (defScope l_sum_s) .none kV20 dc20 pm20 an20 cd20 ct20), sl20⟩)
    (c20 : PySem.W.codeIn K cd20 "_law_sum" = true)
    (k20 : PySem.W.keepIn K (.ref f20) = true)
    (a21 : PySem.W.nsIn K mainGlobals "_law_beside" = some (some (.ref f21)))
    (l21 : K.lookup f21 = some ⟨oc21, od21, .func (PySem.W.fnOf "_law_beside" "_law_beside" (defArgs l_beside_s) (defBody l_beside_s) (defScope l_beside_s) .none kV21 dc21 pm21 an21 cd21 ct21), sl21⟩)
    (c21 : PySem.W.codeIn K cd21 "_law_beside" = true)
    (k21 : PySem.W.keepIn K (.ref f21) = true)
    (a22 : PySem.W.nsIn K mainGlobals "_law_told" = some (some (.ref f22)))
    (l22 : K.lookup f22 = some ⟨oc22, od22, .func (PySem.W.fnOf "_law_told" "_law_told" (defArgs l_told_s) (defBody l_told_s) (defScope l_told_s) .none kV22 dc22 pm22 an22 cd22 ct22), sl22⟩)
    (c22 : PySem.W.codeIn K cd22 "_law_told" = true)
    (k22 : PySem.W.keepIn K (.ref f22) = true)
    (a23 : PySem.W.nsIn K mainGlobals "law" = some (some (.ref f23)))
    (l23 : K.lookup f23 = some ⟨oc23, od23, .func (PySem.W.fnOf "law" "law" (defArgs l_law_s) (defBody l_law_s) (defScope l_law_s) .none kV23 dc23 pm23 an23 cd23 ct23), sl23⟩)
    (c23 : PySem.W.codeIn K cd23 "law" = true)
    (k23 : PySem.W.keepIn K (.ref f23) = true)
    (pg : PySem.W.plainGet K CJ Str.empty = true)
    (hd : PySem.W.hasDictIn K CJ = true)
    (po : PySem.W.plainOver K CJ = true)
    (sa : PySem.W.findIn K (.ref CJ) "__setattr__" = some (some (.builtin "object.__setattr__")))
    (mk : PySem.W.makesIn K CJ = true)
    (kc : PySem.W.keepIn K (.ref CJ) = true)
    (nS : PySem.W.findIn K (.ref CJ) "size" = some none)
    (nJ : PySem.W.findIn K (.ref CJ) "jobs" = some none)
    (ha : PySem.W.findIn K (.ref CJ) "__class__" = some (some (.builtin "object.__class__")))
    (hn : PySem.W.specialIn K (.builtin "object.__class__") "__get__" = some (some (.builtin "getset_descriptor.__get__")))
    (htk : PySem.W.takesIn K (.builtin "object.__class__") = some true)
    (hm : PySem.W.mroIn K CJ (.type "object") = some true)
    (aL : PySem.W.nsIn K mainGlobals "LIMIT" = some (some (.int 7 tL)))
    (z_len : PySem.W.nsIn K mainGlobals "len" = some none)
    (z_abs : PySem.W.nsIn K mainGlobals "abs" = some none)
    (z_int : PySem.W.nsIn K mainGlobals "int" = some none)
    (z_bool : PySem.W.nsIn K mainGlobals "bool" = some none)
    (z_str : PySem.W.nsIn K mainGlobals "str" = some none)
    (z_list : PySem.W.nsIn K mainGlobals "list" = some none)
    (z_tuple : PySem.W.nsIn K mainGlobals "tuple" = some none)
    (z_set : PySem.W.nsIn K mainGlobals "set" = some none)
    (z_range : PySem.W.nsIn K mainGlobals "range" = some none)
    (z_sorted : PySem.W.nsIn K mainGlobals "sorted" = some none)
    (z_repr : PySem.W.nsIn K mainGlobals "repr" = some none)
    (z_isinstance : PySem.W.nsIn K mainGlobals "isinstance" = some none)
    (z_enumerate : PySem.W.nsIn K mainGlobals "enumerate" = some none)
    (z_zip : PySem.W.nsIn K mainGlobals "zip" = some none)
    (z_any : PySem.W.nsIn K mainGlobals "any" = some none)
    (z_all : PySem.W.nsIn K mainGlobals "all" = some none)
    (z_sum : PySem.W.nsIn K mainGlobals "sum" = some none)
    (z_max : PySem.W.nsIn K mainGlobals "max" = some none)
    (z_min : PySem.W.nsIn K mainGlobals "min" = some none)
    (xaT : PySem.W.nsIn K mainGlobals "TooMany" = some (some (.ref cT)))
    (xlT : K.lookup cT = some (excClassObj nmT qT cT NT bsT (.ref cE :: [.type "ValueError", .type "Exception", .type "BaseException", .type "object"]) true snT subT abT colT ddT mT0 mT1 mT2 mT3 mT5 "ValueError.__new__"))
    (xsT : PySem.W.findIn K (.ref cT) "__setattr__" = some (some (.builtin "object.__setattr__")))
    (xgT : PySem.W.findIn K (.ref cT) "__getattribute__" = some (some (.builtin "BaseException.__getattribute__")))
    (xhT : PySem.W.findIn K (.ref cT) "__getattr__" = some none)
    (xkT : PySem.W.keepIn K (.ref cT) = true)
    (xeT : PySem.W.subIn K (.ref cT) (.type "BaseException") = some true)
    (xdT : PySem.W.hasDictIn K cT = true)
    (xoT : PySem.W.findIn K (.ref cT) "__class__" = some (some (.builtin "object.__class__")))
    (xmT : PySem.W.mroIn K cT (.type "object") = some true)
    (xET : PySem.W.subIn K (.ref cT) (.ref cE) = some true)
    (xgU : PySem.W.findIn K (.ref cU) "__getattribute__" = some (some (.builtin "BaseException.__getattribute__")))
    (xhU : PySem.W.findIn K (.ref cU) "__getattr__" = some none)
    (xkU : PySem.W.keepIn K (.ref cU) = true)
    (xeU : PySem.W.subIn K (.ref cU) (.type "BaseException") = some true)
    (xdU : PySem.W.hasDictIn K cU = true)
    (xoU : PySem.W.findIn K (.ref cU) "__class__" = some (some (.builtin "object.__class__")))
    (xmU : PySem.W.mroIn K cU (.type "object") = some true)
    (xEU : PySem.W.subIn K (.ref cU) (.ref cE) = some true)
    (xnT : PySem.W.findIn K (.ref cT) "limit" = some none)
    (xiT : PySem.W.findIn K (.ref cT) "__init__" = some (some (.ref fT)))
    (xtT : PySem.W.typeIn K (.ref fT) = some (.type "function"))
    (xfT : K.lookup fT = some ⟨ocT, odT, .func (PySem.W.fnOf "__init__" "TooMany.__init__" (PySem.TooManyX.iA pT1 pT2) (PySem.TooManyX.iB qT1 qT2 qT3 qT4) PySem.TooManyX.iS .none .none dcT pmT anT cdT ctT), slT⟩)
    (xcT : PySem.W.codeIn K cdT "TooMany.__init__" = true)
    (xaU : PySem.W.nsIn K mainGlobals "Unlike" = some (some (.ref cU)))
    (xxU : PySem.W.excIn K cU [.type "ValueError", .type "Exception", .type "BaseException", .type "object"] "ValueError.__new__" = true)
    (xaE : PySem.W.nsIn K mainGlobals "CrewError" = some (some (.ref cE)))
    (xaW : PySem.W.nsIn K mainGlobals "Wrong" = some (some (.ref cW)))
    (xaN : PySem.W.nsIn K mainGlobals "NoJob" = some (some (.ref cN)))
    (xeE : PySem.W.subIn K (.ref cE) (.type "BaseException") = some true)
    (xdE : PySem.W.hasDictIn K cE = true)
    (xyT : PySem.W.typeIn K (.ref cT) = some (.type "type"))
    (xqT : PySem.W.isClsIn K cT = true)
    (xyU : PySem.W.typeIn K (.ref cU) = some (.type "type"))
    (xqU : PySem.W.isClsIn K cU = true)
    (xyE : PySem.W.typeIn K (.ref cE) = some (.type "type"))
    (xyW : PySem.W.typeIn K (.ref cW) = some (.type "type"))
    (xqW : PySem.W.isClsIn K cW = true)
    (xyN : PySem.W.typeIn K (.ref cN) = some (.type "type"))
    (xqN : PySem.W.isClsIn K cN = true)
    (xzTT : PySem.W.subIn K (.ref cT) (.ref cT) = some true)
    (xzTU : PySem.W.subIn K (.ref cT) (.ref cU) = some false)
    (xzTW : PySem.W.subIn K (.ref cT) (.ref cW) = some false)
    (xzTN : PySem.W.subIn K (.ref cT) (.ref cN) = some false)
    (xzUT : PySem.W.subIn K (.ref cU) (.ref cT) = some false)
    (xzUU : PySem.W.subIn K (.ref cU) (.ref cU) = some true)
    (xzUW : PySem.W.subIn K (.ref cU) (.ref cW) = some false)
    (xzUN : PySem.W.subIn K (.ref cU) (.ref cN) = some false)
    (xsf : PySem.W.selfFirst K CJ = true)
    (xki : PySem.W.subIn K (.type "int") (.ref CJ) = some false)
    (xkj : PySem.W.subIn K (.ref CJ) (.type "int") = some false) :
    ∃ fd : FuncData, (∀ (s : Shared) (v : Value), BindsTo s fd ⟨[v], []⟩ [("_law_script", v)]) ∧ ∀ base : Heap, K.In base → base.Ns mainGlobals mg → FnG l.prog w K mg base CX0 9 fa fd ["_law_script"] (spLaw K) := by
  have e := hfa.symm.trans (PySem.W.mg_of X G a23)
  cases e
  have T : Bltn mg := ⟨PySem.W.mg_none_of X G z_len, PySem.W.mg_none_of X G z_abs, PySem.W.mg_none_of X G z_int, PySem.W.mg_none_of X G z_bool, PySem.W.mg_none_of X G z_str, PySem.W.mg_none_of X G z_list, PySem.W.mg_none_of X G z_tuple, PySem.W.mg_none_of X G z_set, PySem.W.mg_none_of X G z_range, PySem.W.mg_none_of X G z_sorted, PySem.W.mg_none_of X G z_repr, PySem.W.mg_none_of X G z_isinstance, PySem.W.mg_none_of X G z_enumerate, PySem.W.mg_none_of X G z_zip, PySem.W.mg_none_of X G z_any, PySem.W.mg_none_of X G z_all, PySem.W.mg_none_of X G z_sum, PySem.W.mg_none_of X G z_max, PySem.W.mg_none_of X G z_min⟩
  have Cl : Cls K CJ := ⟨pg, hd, po, sa⟩
  have C_Jobs : ClsJ K mg CJ := ⟨Cl, nS, nJ, PySem.W.mg_of X G aC, ⟨Cl, ha, hn, htk, hm⟩, by simp [PySem.W.kitOne]⟩
  have N_LIMIT := PySem.W.mg_of X G aL
  have TT : PySem.TooManyX.TooManyTxt K mg cT fT :=
    { gC := PySem.W.mg_of X G xaT, cls := ⟨nmT, qT, NT, bsT, _, snT, subT, abT, colT, ddT, mT0, mT1, mT2, mT3, mT5, xlT, by rfl⟩, sa := xsT, ga := xgT, gg := xhT, noN := xnT, iC := xiT, tC := xtT, kC := xkT, exC := xeT, tyC := xyT, hdC := xdT, te := exm_ref2 xeT xdT xyT xzTT,
      fn := ⟨_, _, _, _, _, _, _, _, _, _, _, _, _, _, xfT, xcT⟩ }
  have EU : UnlikeT K mg cU := ⟨xxU, PySem.W.mg_of X G xaU, xkU, xeU, xyU⟩
  have JF : JobsF K CJ := ⟨xsf, xki, xkj⟩
  have KF : KindsF K mg cE cW cN cT cU := ⟨PySem.W.mg_of X G xaE, PySem.W.mg_of X G xaW, PySem.W.mg_of X G xaN, ⟨xgT, xhT, xeT, xdT, xoT, hn, htk, xmT⟩, ⟨xgU, xhU, xeU, xdU, xoU, hn, htk, xmU⟩, exm_ref2 xeE xdE xyE xET, exm_ref2 xeE xdE xyE xEU,
    kit_ff xzTU xzTT xqU xyU, kit_tt, kit_ff xzTW xzTT xqW xyW, kit_ff xzTN xzTT xqN xyN, kit_tt, kit_ff xzUT xzUU xqT xyT, kit_ff xzUW xzUU xqW xyW, kit_ff xzUN xzUU xqN xyN⟩
  have is_integer_D : Dfn K mg "is_integer" "is_integer" is_integer_s ["thing"] _ _ := ⟨(fun_mk (st := is_integer_s) l1 c1 k1), ((fun_mk (st := is_integer_s) l1 c1 k1).binds (ps := ["thing"]) fun _ _ _ _ _ _ us hl => match us, hl with | [_], _ => rfl), PySem.W.mg_of X G a1⟩
  have is_group_D : Dfn K mg "is_group" "is_group" is_group_s ["size", "thing"] _ _ := ⟨(fun_mk (st := is_group_s) l2 c2 k2), ((fun_mk (st := is_group_s) l2 c2 k2).binds (ps := ["size", "thing"]) fun _ _ _ _ _ _ us hl => match us, hl with | [_, _], _ => rfl), PySem.W.mg_of X G a2⟩
  have is_count_D : Dfn K mg "is_count" "is_count" is_count_s ["thing", "limit"] _ _ := ⟨(fun_mk (st := is_count_s) l3 c3 k3), ((fun_mk (st := is_count_s) l3 c3 k3).binds (ps := ["thing", "limit"]) fun _ _ _ _ _ _ us hl => match us, hl with | [_, _], _ => rfl), PySem.W.mg_of X G a3⟩
  have is_row_D : Dfn K mg "is_row" "is_row" is_row_s ["thing", "limit"] _ _ := ⟨(fun_mk (st := is_row_s) l4 c4 k4), ((fun_mk (st := is_row_s) l4 c4 k4).binds (ps := ["thing", "limit"]) fun _ _ _ _ _ _ us hl => match us, hl with | [_, _], _ => rfl), PySem.W.mg_of X G a4⟩
  have check_jobs_D : Dfn K mg "check_jobs" "check_jobs" check_jobs_s ["size", "jobs", "most_people", "most_jobs"] _ _ := ⟨(fun_mk (st := check_jobs_s) l5 c5 k5), ((fun_mk (st := check_jobs_s) l5 c5 k5).binds (ps := ["size", "jobs", "most_people", "most_jobs"]) fun _ _ _ _ _ _ us hl => match us, hl with | [_, _, _, _], _ => rfl), PySem.W.mg_of X G a5⟩
  have Jobs_init_D : IniJ K CJ Jobs_init_s _ _ := ⟨(fun_mk (st := Jobs_init_s) l6 c6 k6), ((fun_mk (st := Jobs_init_s) l6 c6 k6).binds (ps := ["self", "size", "jobs"]) fun _ _ _ _ _ _ us hl => match us, hl with | [_, _, _], _ => rfl), ⟨mk, a6, i6, kc⟩⟩
  have l_bag_D : Dfn K mg "_law_bag" "_law_bag" l_bag_s ["_law_script"] _ _ := ⟨(fun_mk (st := l_bag_s) l7 c7 k7), ((fun_mk (st := l_bag_s) l7 c7 k7).binds (ps := ["_law_script"]) fun _ _ _ _ _ _ us hl => match us, hl with | [_], _ => rfl), PySem.W.mg_of X G a7⟩
  have l_take_D : Dfn K mg "_law_take" "_law_take" l_take_s ["_law_bag_here", "_law_many"] _ _ := ⟨(fun_mk (st := l_take_s) l8 c8 k8), ((fun_mk (st := l_take_s) l8 c8 k8).binds (ps := ["_law_bag_here", "_law_many"]) fun _ _ _ _ _ _ us hl => match us, hl with | [_, _], _ => rfl), PySem.W.mg_of X G a8⟩
  have l_one_D : Dfn K mg "_law_one" "_law_one" l_one_s ["_law_bag_here", "_law_things"] _ _ := ⟨(fun_mk (st := l_one_s) l9 c9 k9), ((fun_mk (st := l_one_s) l9 c9 k9).binds (ps := ["_law_bag_here", "_law_things"]) fun _ _ _ _ _ _ us hl => match us, hl with | [_, _], _ => rfl), PySem.W.mg_of X G a9⟩
  have l_alike_D : Dfn K mg "_law_alike" "_law_alike" l_alike_s ["_law_found", "_law_due"] _ _ := ⟨(fun_mk (st := l_alike_s) l10 c10 k10), ((fun_mk (st := l_alike_s) l10 c10 k10).binds (ps := ["_law_found", "_law_due"]) fun _ _ _ _ _ _ us hl => match us, hl with | [_, _], _ => rfl), PySem.W.mg_of X G a10⟩
  have l_some_D : Dfn K mg "_law_some" "_law_some" l_some_s ["_law_bag_here", "_law_things"] _ _ := ⟨(fun_mk (st := l_some_s) l11 c11 k11), ((fun_mk (st := l_some_s) l11 c11 k11).binds (ps := ["_law_bag_here", "_law_things"]) fun _ _ _ _ _ _ us hl => match us, hl with | [_, _], _ => rfl), PySem.W.mg_of X G a11⟩
  have l_job_D : Dfn K mg "_law_job" "_law_job" l_job_s ["_law_bag_here", "_law_size"] _ _ := ⟨(fun_mk (st := l_job_s) l12 c12 k12), ((fun_mk (st := l_job_s) l12 c12 k12).binds (ps := ["_law_bag_here", "_law_size"]) fun _ _ _ _ _ _ us hl => match us, hl with | [_, _], _ => rfl), PySem.W.mg_of X G a12⟩
  have l_jobs_D : Dfn K mg "_law_jobs" "_law_jobs" l_jobs_s ["_law_bag_here", "_law_size", "_law_most"] _ _ := ⟨(fun_mk (st := l_jobs_s) l13 c13 k13), ((fun_mk (st := l_jobs_s) l13 c13 k13).binds (ps := ["_law_bag_here", "_law_size", "_law_most"]) fun _ _ _ _ _ _ us hl => match us, hl with | [_, _, _], _ => rfl), PySem.W.mg_of X G a13⟩
  have shifted_D : Dfn K mg "shifted" "shifted" shifted_s ["group", "by"] _ _ := ⟨(fun_mk (st := shifted_s) l14 c14 k14), ((fun_mk (st := shifted_s) l14 c14 k14).binds (ps := ["group", "by"]) fun _ _ _ _ _ _ us hl => match us, hl with | [_, _], _ => rfl), PySem.W.mg_of X G a14⟩
  have Jobs___add___D : Mth K CJ "__add__" "Jobs.__add__" Jobs___add___s ["self", "other"] _ _ := ⟨(fun_mk (st := Jobs___add___s) l15 c15 k15), ((fun_mk (st := Jobs___add___s) l15 c15 k15).binds (ps := ["self", "other"]) fun _ _ _ _ _ _ us hl => match us, hl with | [_, _], _ => rfl), ⟨a15, i15, k15⟩⟩
  have Jobs___or___D : Mth K CJ "__or__" "Jobs.__or__" Jobs___or___s ["self", "other"] _ _ := ⟨(fun_mk (st := Jobs___or___s) l16 c16 k16), ((fun_mk (st := Jobs___or___s) l16 c16 k16).binds (ps := ["self", "other"]) fun _ _ _ _ _ _ us hl => match us, hl with | [_, _], _ => rfl), ⟨a16, i16, k16⟩⟩
  have Jobs___mul___D : Mth K CJ "__mul__" "Jobs.__mul__" Jobs___mul___s ["self", "count"] _ _ := ⟨(fun_mk (st := Jobs___mul___s) l17 c17 k17), ((fun_mk (st := Jobs___mul___s) l17 c17 k17).binds (ps := ["self", "count"]) fun _ _ _ _ _ _ us hl => match us, hl with | [_, _], _ => rfl), ⟨a17, i17, k17⟩⟩
  have Jobs___rmul___D : Mth K CJ "__rmul__" "Jobs.__rmul__" Jobs___rmul___s ["self", "count"] _ _ := ⟨(fun_mk (st := Jobs___rmul___s) l18 c18 k18), ((fun_mk (st := Jobs___rmul___s) l18 c18 k18).binds (ps := ["self", "count"]) fun _ _ _ _ _ _ us hl => match us, hl with | [_, _], _ => rfl), ⟨a18, i18, k18⟩⟩
  have l_repeated_D : Dfn K mg "_law_repeated" "_law_repeated" l_repeated_s ["_law_size", "_law_rows", "_law_count"] _ _ := ⟨(fun_mk (st := l_repeated_s) l19 c19 k19), ((fun_mk (st := l_repeated_s) l19 c19 k19).binds (ps := ["_law_size", "_law_rows", "_law_count"]) fun _ _ _ _ _ _ us hl => match us, hl with | [_, _, _], _ => rfl), PySem.W.mg_of X G a19⟩
  have l_sum_D : Dfn K mg "_law_sum" "_law_sum" l_sum_s ["_law_size", "_law_rows", "_law_wide", "_law_others"] _ _ := ⟨(fun_mk (st := l_sum_s) l20 c20 k20), ((fun_mk (st := l_sum_s) l20 c20 k20).binds (ps := ["_law_size", "_law_rows", "_law_wide", "_law_others"]) fun _ _ _ _ _ _ us hl => match us, hl with | [_, _, _, _], _ => rfl), PySem.W.mg_of X G a20⟩
  have l_beside_D : Dfn K mg "_law_beside" "_law_beside" l_beside_s ["_law_size", "_law_rows", "_law_wide", "_law_others"] _ _ := ⟨(fun_mk (st := l_beside_s) l21 c21 k21), ((fun_mk (st := l_beside_s) l21 c21 k21).binds (ps := ["_law_size", "_law_rows", "_law_wide", "_law_others"]) fun _ _ _ _ _ _ us hl => match us, hl with | [_, _, _, _], _ => rfl), PySem.W.mg_of X G a21⟩
  have l_told_D : Dfn K mg "_law_told" "_law_told" l_told_s ["_law_way", "_law_one_here", "_law_other"] _ _ := ⟨(fun_mk (st := l_told_s) l22 c22 k22), ((fun_mk (st := l_told_s) l22 c22 k22).binds (ps := ["_law_way", "_law_one_here", "_law_other"]) fun _ _ _ _ _ _ us hl => match us, hl with | [_, _, _], _ => rfl), PySem.W.mg_of X G a22⟩
  have l_law_D : Dfn K mg "law" "law" l_law_s ["_law_script"] _ _ := ⟨(fun_mk (st := l_law_s) l23 c23 k23), ((fun_mk (st := l_law_s) l23 c23 k23).binds (ps := ["_law_script"]) fun _ _ _ _ _ _ us hl => match us, hl with | [_], _ => rfl), PySem.W.mg_of X G a23⟩
  refine ⟨PySem.W.fnOf "law" "law" (defArgs l_law_s) (defBody l_law_s) (defScope l_law_s) .none kV23 dc23 pm23 an23 cd23 ct23, fun s v => .of_eq rfl, fun base _ _ => ?_⟩
  have is_integer_H := fun g : Gd => is_integer_ok (P := l.prog) (w := w) (base := base) (g := g) T is_integer_D
  have is_group_H := fun g : Gd => is_group_ok (P := l.prog) (w := w) (base := base) (g := g) T is_group_D is_integer_D (is_integer_H g)
  have is_count_H := fun g : Gd => is_count_ok (P := l.prog) (w := w) (base := base) (g := g) T is_count_D is_integer_D (is_integer_H g)
  have is_row_H := fun g : Gd => is_row_ok (P := l.prog) (w := w) (base := base) (g := g) T is_row_D
  have check_jobs_H := fun g : Gd => check_jobs_ok (P := l.prog) (w := w) (base := base) (g := g) T check_jobs_D is_count_D (is_count_H g) is_group_D (is_group_H g) is_row_D (is_row_H g)
  have Jobs_init_H := fun g : Gd => Jobs_init_ok (P := l.prog) (w := w) (base := base) (g := g) T C_Jobs Jobs_init_D N_LIMIT check_jobs_D (check_jobs_H g)
  have l_bag_H := fun (sa : Addr) (ns : List Int) (tr : Prop) => l_bag_ok (P := l.prog) (w := w) (base := base) (sa := sa) (ns := ns) (tr := tr) T l_bag_D
  have l_take_H : ∀ (b c : Addr) (cs : List Int), (∀ n ∈ cs, 0 ≤ n) → FnOk l.prog w K mg base CX0 1 _ _ ["_law_bag_here", "_law_many"] (spOf (Bg b c cs) 2 (spTake b)) := fun b c cs hcs => ok_take hcs l_take_D.F T.len T.int
  have l_one_H := fun (b c : Addr) (cs : List Int) (hcs : ∀ n ∈ cs, 0 ≤ n) => l_one_ok (P := l.prog) (w := w) (base := base) (b := b) (c := c) (cs := cs) T l_one_D l_take_D (l_take_H b c cs hcs)
  have l_alike_H := fun g : Gd => l_alike_ok (P := l.prog) (w := w) (base := base) (g := g) T l_alike_D
  have l_some_H := fun (b c : Addr) (cs : List Int) (hcs : ∀ n ∈ cs, 0 ≤ n) => l_some_ok (P := l.prog) (w := w) (base := base) (b := b) (c := c) (cs := cs) T l_some_D l_take_D (l_take_H b c cs hcs)
  have l_job_H := fun (b c : Addr) (cs : List Int) (hcs : ∀ n ∈ cs, 0 ≤ n) => l_job_ok (P := l.prog) (w := w) (base := base) (b := b) (c := c) (cs := cs) T l_job_D l_some_D (l_some_H b c cs hcs) l_take_D (l_take_H b c cs hcs)
  have l_jobs_H := fun (b c : Addr) (cs : List Int) (hcs : ∀ n ∈ cs, 0 ≤ n) => l_jobs_ok (P := l.prog) (w := w) (base := base) (b := b) (c := c) (cs := cs) T l_jobs_D l_job_D (l_job_H b c cs hcs) l_one_D (l_one_H b c cs hcs) l_take_D (l_take_H b c cs hcs)
  have shifted_H := fun g : Gd => shifted_ok (P := l.prog) (w := w) (base := base) (g := g) T shifted_D
  have Jobs___add___H := fun g : Gd => Jobs___add___ok (P := l.prog) (w := w) (base := base) (g := g) T Jobs___add___D C_Jobs Jobs_init_D (Jobs_init_H g) N_LIMIT EU TT
  have Jobs___or___H := fun g : Gd => Jobs___or___ok (P := l.prog) (w := w) (base := base) (g := g) T Jobs___or___D C_Jobs Jobs_init_D (Jobs_init_H g) N_LIMIT shifted_D (shifted_H g) TT
  have Jobs___mul___H := fun g : Gd => Jobs___mul___ok (P := l.prog) (w := w) (base := base) (g := g) T Jobs___mul___D C_Jobs Jobs_init_D (Jobs_init_H g) N_LIMIT TT
  have Jobs___rmul___H := fun g : Gd => Jobs___rmul___ok (P := l.prog) (w := w) (base := base) (g := g) T Jobs___rmul___D C_Jobs JF Jobs___mul___D (Jobs___mul___H g)
  have l_repeated_H := fun g : Gd => l_repeated_ok (P := l.prog) (w := w) (base := base) (g := g) T l_repeated_D
  have l_sum_H := fun g : Gd => l_sum_ok (P := l.prog) (w := w) (base := base) (g := g) T l_sum_D
  have l_beside_H := fun g : Gd => l_beside_ok (P := l.prog) (w := w) (base := base) (g := g) T l_beside_D
  have l_told_H := fun g : Gd => l_told_ok (P := l.prog) (w := w) (base := base) (g := g) T l_told_D C_Jobs JF EU TT KF Jobs___add___D (Jobs___add___H g) Jobs___or___D (Jobs___or___H g) Jobs___mul___D (Jobs___mul___H g) Jobs___rmul___D (Jobs___rmul___H g)
  exact l_law_ok T l_law_D C_Jobs Jobs_init_D Jobs_init_H l_bag_D l_bag_H l_alike_D (fun b c cs _ => l_alike_H (Bg b c cs)) l_beside_D (fun b c cs _ => l_beside_H (Bg b c cs)) l_jobs_D l_jobs_H l_one_D l_one_H l_repeated_D (fun b c cs _ => l_repeated_H (Bg b c cs)) l_sum_D (fun b c cs _ => l_sum_H (Bg b c cs)) l_take_D l_take_H l_told_D (fun b c cs _ => l_told_H (Bg b c cs))
end K17
open PySem PySem.W PyProof.Rows in
set_option maxRecDepth 100000 in
set_option maxHeartbeats 0 in
theorem PySem.Challenge.cw_crewlists_k17_jobs_joined_holds : PySem.Challenge.rw_crewlists_k17_jobs_joined.Holds := by
  w_on; o_law; k_head; (case hw => w_witness2)
  k_fill
  refine DW.walkG (l := PySem.Challenge.rw_crewlists_k17_jobs_joined) (n := 63) (k := 9) (x := "_law_script") (sp := fun w => K17.spLaw _) rfl (by decide) rfl ⟨rfl, by decide, by decide⟩ (fun w h Y => PySem.W.kIn_of Y) ?F (fun _ _ a ns hl _ hS => ⟨a, ns, rfl, hS, fun _ => rfl⟩)
  case F =>
    intro w mg fa h KX G hmg
    refine' K17.all_mk KX G hmg ?aC ?a1 ?l1 ?c1 ?k1 ?a2 ?l2 ?c2 ?k2 ?a3 ?l3 ?c3 ?k3 ?a4 ?l4 ?c4 ?k4 ?a5 ?l5 ?c5 ?k5 ?a6 ?i6 ?l6 ?c6 ?k6 ?a7 ?l7 ?c7 ?k7 ?a8 ?l8 ?c8 ?k8 ?a9 ?l9 ?c9 ?k9 ?a10 ?l10 ?c10 ?k10 ?a11 ?l11 ?c11 ?k11 ?a12 ?l12 ?c12 ?k12 ?a13 ?l13 ?c13 ?k13 ?a14 ?l14 ?c14 ?k14 ?a15 ?i15 ?l15 ?c15 ?k15 ?a16 ?i16 ?l16 ?c16 ?k16 ?a17 ?i17 ?l17 ?c17 ?k17 ?a18 ?i18 ?l18 ?c18 ?k18 ?a19 ?l19 ?c19 ?k19 ?a20 ?l20 ?c20 ?k20 ?a21 ?l21 ?c21 ?k21 ?a22 ?l22 ?c22 ?k22 ?a23 ?l23 ?c23 ?k23 ?pg ?hd ?po ?sa ?mk ?kc ?nS ?nJ ?ha ?hn ?htk ?hm ?aL ?z_len ?z_abs ?z_int ?z_bool ?z_str ?z_list ?z_tuple ?z_set ?z_range ?z_sorted ?z_repr ?z_isinstance ?z_enumerate ?z_zip ?z_any ?z_all ?z_sum ?z_max ?z_min ?xaT ?xlT ?xsT ?xgT ?xhT ?xkT ?xeT ?xdT ?xoT ?xmT ?xET ?xgU ?xhU ?xkU ?xeU ?xdU ?xoU ?xmU ?xEU ?xnT ?xiT ?xtT ?xfT ?xcT ?xaU ?xxU ?xaE ?xaW ?xaN ?xeE ?xdE ?xyT ?xqT ?xyU ?xqU ?xyE ?xyW ?xqW ?xyN ?xqN ?xzTT ?xzTU ?xzTW ?xzTN ?xzUT ?xzUU ?xzUW ?xzUN ?xsf ?xki ?xkj
    (case xaT => first | k_is | rfl)
    (case xaU => first | k_is | rfl)
    (case xaE => first | k_is | rfl)
    (case xaW => first | k_is | rfl)
    (case xaN => first | k_is | rfl)
    (case aC => k_is)
    (case a1 => k_is)
    (case l1 => k_is)
    (case c1 => k_is)
    (case k1 => k_is)
    (case a2 => k_is)
    (case l2 => k_is)
    (case c2 => k_is)
    (case k2 => k_is)
    (case a3 => k_is)
    (case l3 => k_is)
    (case c3 => k_is)
    (case k3 => k_is)
    (case a4 => k_is)
    (case l4 => k_is)
    (case c4 => k_is)
    (case k4 => k_is)
    (case a5 => k_is)
    (case l5 => k_is)
    (case c5 => k_is)
    (case k5 => k_is)
    (case a6 => k_is)
    (case i6 => k_is)
    (case l6 => k_is)
    (case c6 => k_is)
    (case k6 => k_is)
    (case a7 => k_is)
    (case l7 => k_is)
    (case c7 => k_is)
    (case k7 => k_is)
    (case a8 => k_is)
    (case l8 => k_is)
    (case c8 => k_is)
    (case k8 => k_is)
    (case a9 => k_is)
    (case l9 => k_is)
    (case c9 => k_is)
    (case k9 => k_is)
    (case a10 => k_is)
    (case l10 => k_is)
    (case c10 => k_is)
    (case k10 => k_is)
    (case a11 => k_is)
    (case l11 => k_is)
    (case c11 => k_is)
    (case k11 => k_is)
    (case a12 => k_is)
    (case l12 => k_is)
    (case c12 => k_is)
    (case k12 => k_is)
    (case a13 => k_is)
    (case l13 => k_is)
    (case c13 => k_is)
    (case k13 => k_is)
    (case a14 => k_is)
    (case l14 => k_is)
    (case c14 => k_is)
    (case k14 => k_is)
    (case a15 => k_is)
    (case i15 => k_is)
    (case l15 => k_is)
    (case c15 => k_is)
    (case k15 => k_is)
    (case a16 => k_is)
    (case i16 => k_is)
    (case l16 => k_is)
    (case c16 => k_is)
    (case k16 => k_is)
    (case a17 => k_is)
    (case i17 => k_is)
    (case l17 => k_is)
    (case c17 => k_is)
    (case k17 => k_is)
    (case a18 => k_is)
    (case i18 => k_is)
    (case l18 => k_is)
    (case c18 => k_is)
    (case k18 => k_is)
    (case a19 => k_is)
    (case l19 => k_is)
    (case c19 => k_is)
    (case k19 => k_is)
    (case a20 => k_is)
    (case l20 => k_is)
    (case c20 => k_is)
    (case k20 => k_is)
    (case a21 => k_is)
    (case l21 => k_is)
    (case c21 => k_is)
    (case k21 => k_is)
    (case a22 => k_is)
    (case l22 => k_is)
    (case c22 => k_is)
    (case k22 => k_is)
    (case a23 => k_is)
    (case l23 => k_is)
    (case c23 => k_is)
    (case k23 => k_is)
    (case pg => k_is)
    (case hd => k_is)
    (case po => k_is)
    (case sa => k_is)
    (case mk => k_is)
    (case kc => k_is)
    (case nS => k_is)
    (case nJ => k_is)
    (case ha => k_is)
    (case hn => k_is)
    (case htk => k_is)
    (case hm => k_is)
    (case aL => k_is)
    (case z_len => k_is)
    (case z_abs => k_is)
    (case z_int => k_is)
    (case z_bool => k_is)
    (case z_str => k_is)
    (case z_list => k_is)
    (case z_tuple => k_is)
    (case z_set => k_is)
    (case z_range => k_is)
    (case z_sorted => k_is)
    (case z_repr => k_is)
    (case z_isinstance => k_is)
    (case z_enumerate => k_is)
    (case z_zip => k_is)
    (case z_any => k_is)
    (case z_all => k_is)
    (case z_sum => k_is)
    (case z_max => k_is)
    (case z_min => k_is)
    (case xlT => first | k_is | rfl)
    (case xsT => first | k_is | rfl)
    (case xgT => first | k_is | rfl)
    (case xhT => first | k_is | rfl)
    (case xkT => first | k_is | rfl)
    (case xeT => first | k_is | rfl)
    (case xdT => first | k_is | rfl)
    (case xoT => first | k_is | rfl)
    (case xmT => first | k_is | rfl)
    (case xET => first | k_is | rfl)
    (case xgU => first | k_is | rfl)
    (case xhU => first | k_is | rfl)
    (case xkU => first | k_is | rfl)
    (case xeU => first | k_is | rfl)
    (case xdU => first | k_is | rfl)
    (case xoU => first | k_is | rfl)
    (case xmU => first | k_is | rfl)
    (case xEU => first | k_is | rfl)
    (case xnT => first | k_is | rfl)
    (case xiT => first | k_is | rfl)
    (case xtT => first | k_is | rfl)
    (case xfT => first | k_is | rfl)
    (case xcT => first | k_is | rfl)
    (case xxU => k_exc)
    (case xeE => first | k_is | rfl)
    (case xdE => first | k_is | rfl)
    (case xyT => first | k_is | rfl)
    (case xqT => first | k_is | rfl)
    (case xyU => first | k_is | rfl)
    (case xqU => first | k_is | rfl)
    (case xyE => first | k_is | rfl)
    (case xyW => first | k_is | rfl)
    (case xqW => first | k_is | rfl)
    (case xyN => first | k_is | rfl)
    (case xqN => first | k_is | rfl)
    (case xzTT => first | k_is | rfl)
    (case xzTU => first | k_is | rfl)
    (case xzTW => first | k_is | rfl)
    (case xzTN => first | k_is | rfl)
    (case xzUT => first | k_is | rfl)
    (case xzUU => first | k_is | rfl)
    (case xzUW => first | k_is | rfl)
    (case xzUN => first | k_is | rfl)
    (case xsf => first | k_is | rfl)
    (case xki => first | k_is | rfl)
    (case xkj => first | k_is | rfl)
